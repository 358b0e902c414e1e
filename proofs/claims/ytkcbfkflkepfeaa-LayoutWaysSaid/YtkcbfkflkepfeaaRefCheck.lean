/- Walks of the reference: CheckSystem. -/
import Derived.Test.YtkcbfkflkepfeaaCheckSys
import Derived.Test.YtkcbfkflkepfeaaConcat
import Derived.Deep.RegionWith
namespace Go.Proofs.Ytkcbfkflkepfeaa
open Go.RowKit

theorem Sys.err_range {s : Sys} (h : ¬(s.bays.length < 1 ∨ 8 < s.bays.length ∨ 8 < s.boards.length)) (h2 : s.all.all ok1 = false) : s.err = 2 := by
  have hl : listsErr s.bays s.boards = 2 := by
    unfold listsErr
    unfold Sys.all at h2
    rw [List.all_append] at h2
    rw [if_pos h2]
  rw [Sys.err_lists h (by rw [hl]; simp), hl]
theorem Sys.err_order {s : Sys} (h : ¬(s.bays.length < 1 ∨ 8 < s.bays.length ∨ 8 < s.boards.length)) (h1 : s.all.all ok1 = true) (h2 : (rise s.bays && rise s.boards) = false) : s.err = 10 := by
  have hl : listsErr s.bays s.boards = 10 := by
    unfold listsErr
    unfold Sys.all at h1
    rw [List.all_append] at h1
    rw [if_neg (by simp [h1]), if_pos h2]
  rw [Sys.err_lists h (by rw [hl]; simp), hl]
theorem Sys.err_fine {s : Sys} (h : ¬(s.bays.length < 1 ∨ 8 < s.bays.length ∨ 8 < s.boards.length)) (h1 : s.all.all ok1 = true) (h2 : (rise s.bays && rise s.boards) = true) (b : Bool) (hb : s.rest = b) : s.err = if b then 0 else 2 := by
  have hl : listsErr s.bays s.boards = 0 := by
    unfold listsErr
    unfold Sys.all at h1
    rw [List.all_append] at h1
    rw [if_neg (by simp [h1]), if_neg (by simp [h2])]
  exact Sys.err_rest h hl b hb
theorem within_lit (n a b : Int) (r : Bool) (w : World) (h : decide (a ≤ n ∧ n ≤ b) = r) : Calls Try.prog 34 #[.int .i64 n, .int .i64 a, .int .i64 b] w fun e w' => w = w' ∧ e = .returned (.bool r) := by
  rw [← h]
  exact within_any n a b w

theorem step_append_ints {w : World} {ops : Array Oper} {o : Oper} {a : Act} {K : Act → World → Prop} {Q : Exit → Act → World → Prop} {E : Prop} (hgd : o.guard = none) (s x : Operand)
    (ho : o.op = .call { callee := .builtin .append, args := #[s, x], argTypes := #[22, 22] })
    (base : Nat) (v : Value) (n : Nat) (l : List Int) (hs : a.eval s = v) (hown : w.ownsRow base 3 1 v n (i64s l))
    (A2 : Option Addr) (n2 c2 : Nat) (l2 : List Int) (hx : a.eval x = .slice A2 n2 c2) (h2 : Ints w w.heap.size A2 n2 c2 l2) (h63 : n + n2 ≤ 1000000) (hbase : base ≤ w.heap.size)
    (h : ∀ v' w', w'.ownsRow base 3 1 v' (n + n2) (i64s (l ++ l2)) → w.grownBy w' v.ownBlock → K (a.put o.dst v') w') :
    if Region.wanted o (yielded ops a.tmps) = true then Oper.wp Try.prog o a w K Q else E := by
  have hw : Region.wanted o (yielded ops a.tmps) = true := by simp [Region.wanted, hgd]
  rw [if_pos hw]
  obtain ⟨i0, hi0, hz0, hz1, hz2⟩ := info_parts info_int
  have hl2 := h2.nums.len
  match A2 with
  | none =>
    obtain ⟨rfl, rfl⟩ := h2.nil rfl
    obtain rfl : l2 = [] := List.eq_nil_of_length_eq_zero hl2
    have hrun := run_append_owned_none (P := Try.prog) (w := w) base 22 o.type 3 i0 1 Try.underlying22 hi0 v n (i64s l) hown
    unfold Oper.wp execOp
    simp only [ho, resolve, invoke, builtin, Sem.run_bind, Sem.run_pure, Result.andThen_ok, List.map_toArray, List.map_cons, List.map_nil, hs, hx, hrun]
    exact h v w (by simpa using hown) ⟨rfl, rfl, rfl, Nat.le_refl _, fun _ _ _ => rfl⟩
  | some ad =>
    exact wp_append_own w s x 22 ho base 3 i0 _ 1 8 Try.underlying22 hi0 hz0 hz1 hz2 rfl (by omega) v n (i64s l) hs hown ad n2 c2 (i64s l2) hx (by rw [i64s_length]; omega) h2.cells_at (i64s_one _) (by unfold maxLen; omega) (by omega) hbase
      (fun v' w' h3 h4 _ => h v' w' (by rw [i64s_append]; exact h3) h4)

set_option maxHeartbeats 4000000 in
theorem refCheck_shape (A A2 : Option Addr) (n c n2 c2 : Nat) (s : Sys) (w : World) (h : SysAt w w.heap.size A n c A2 n2 c2 s) (h1 : n < 1 ∨ 8 < n ∨ 8 < n2) :
    Calls Try.prog 16 #[.agg #[.slice A n c, .slice A2 n2 c2, .int .i64 s.width, .int .i64 s.gap, .int .i64 s.lift]] w fun e w' => Below w.heap.size w w' ∧ e = .returned (.int .i64 s.err) := by
  have hcapA := h.a.nums.cap; have hmaxA := h.a.nums.max; have hcapB := h.b.nums.cap; have hmaxB := h.b.nums.max; have HLA := Lib.hid h.a.nums.len; have HLB := Lib.hid h.b.nums.len; have H : Hid (∀ w', Below w.heap.size w w' → SysAt w' w.heap.size A n c A2 n2 c2 s) := fun w' hb => h.below hb (Nat.le_refl _) (Nat.le_refl _); have HS : Hid (∀ w', Below w.heap.size w w' → SysAt w' w'.heap.size A n c A2 n2 c2 s) := fun w' hb => h.below hb (Nat.le_refl _) hb.size; clear h
  have HE := Lib.hid (Sys.err_shape (s := s) (by rw [HLA.out, HLB.out]; omega))
  by_cases h2 : 1 ≤ n ∧ n ≤ 8
  · have HW1 := Lib.hid (fun W : World => within_lit (n : Int) 1 8 true W (by simp; omega))
    have h3 : 8 < n2 := by omega
    clear h1 h2
    go_enter Try.func16, Try.ntmps16
    go_wp2_with (go_at_call 34; refine (HW1.out _).mono ?_; rintro e w' ⟨rfl, rfl⟩)
    go_ret
    exact ⟨(by repeat (first | with_reducible exact Below.refl _ _ | with_reducible assumption | with_reducible refine Below.drew ?_ | with_reducible refine Below.drewN ?_ _ | with_reducible refine Below.alloc2 ?_ _ | with_reducible refine Below.alloc ?_ (by first | omega | (simp <;> omega)) _ | with_reducible refine Below.setCell ?_ (by first | omega | (simp <;> omega)) _ | with_reducible refine Below.step2 (by with_reducible assumption) ?_ | with_reducible refine Below.step (by with_reducible assumption) ?_ (by first | omega | (simp <;> omega)))), ret_int HE.out.symm⟩
  · have HW1 := Lib.hid (fun W : World => within_lit (n : Int) 1 8 false W (by simp; omega))
    clear h1 h2
    go_enter Try.func16, Try.ntmps16
    go_wp2_with (go_at_call 34; refine (HW1.out _).mono ?_; rintro e w' ⟨rfl, rfl⟩)
    go_ret
    exact ⟨(by repeat (first | with_reducible exact Below.refl _ _ | with_reducible assumption | with_reducible refine Below.drew ?_ | with_reducible refine Below.drewN ?_ _ | with_reducible refine Below.alloc2 ?_ _ | with_reducible refine Below.alloc ?_ (by first | omega | (simp <;> omega)) _ | with_reducible refine Below.setCell ?_ (by first | omega | (simp <;> omega)) _ | with_reducible refine Below.step2 (by with_reducible assumption) ?_ | with_reducible refine Below.step (by with_reducible assumption) ?_ (by first | omega | (simp <;> omega)))), ret_int HE.out.symm⟩

set_option maxRecDepth 100000 in
set_option maxHeartbeats 8000000 in
theorem refCheck_all (A A2 : Option Addr) (n c n2 c2 : Nat) (s : Sys) (w : World) (h : SysAt w w.heap.size A n c A2 n2 c2 s) (h1 : ¬(n < 1 ∨ 8 < n ∨ 8 < n2)) :
    Calls Try.prog 16 #[.agg #[.slice A n c, .slice A2 n2 c2, .int .i64 s.width, .int .i64 s.gap, .int .i64 s.lift]] w fun e w' => Below w.heap.size w w' ∧ e = .returned (.int .i64 s.err) := by
  have hcapA := h.a.nums.cap; have hmaxA := h.a.nums.max; have hcapB := h.b.nums.cap; have hmaxB := h.b.nums.max; have HLA := Lib.hid h.a.nums.len; have HLB := Lib.hid h.b.nums.len; have H : Hid (∀ w', Below w.heap.size w w' → SysAt w' w.heap.size A n c A2 n2 c2 s) := fun w' hb => h.below hb (Nat.le_refl _) (Nat.le_refl _); have HS : Hid (∀ w', Below w.heap.size w w' → SysAt w' w'.heap.size A n c A2 n2 c2 s) := fun w' hb => h.below hb (Nat.le_refl _) hb.size; clear h
  have HSH := Lib.hid (show ¬(s.bays.length < 1 ∨ 8 < s.bays.length ∨ 8 < s.boards.length) by rw [HLA.out, HLB.out]; exact h1)
  have HW1 := Lib.hid (fun W : World => within_lit (n : Int) 1 8 true W (by simp; omega))
  have h3 : ¬ 8 < n2 := by omega
  have h4 : n ≤ 8 := by omega
  have HLL : Hid (s.all.length = n + n2) := Lib.hid (by unfold Sys.all; rw [List.length_append, HLA.out, HLB.out])
  clear h1
  go_enter Try.func16, Try.ntmps16
  go_wp2_with (go_at_call 34; refine (HW1.out _).mono ?_; rintro e w' ⟨rfl, rfl⟩)
  go_region_held3 (fun w' => w'.cell? ⟨w.heap.size, 0, none⟩ = some (.slice A n c) ∧ w'.cell? ⟨w.heap.size, 1, none⟩ = some (.slice A2 n2 c2) ∧ w'.cell? ⟨w.heap.size, 2, none⟩ = some (.int .i64 s.width) ∧ w'.cell? ⟨w.heap.size, 3, none⟩ = some (.int .i64 s.gap) ∧ w'.cell? ⟨w.heap.size, 4, none⟩ = some (.int .i64 s.lift))
    (first | go_keep | exact ⟨(hgrow.cell_far _ (by show w.heap.size < _; omega) HF.out).trans s0, (hgrow.cell_far _ (by show w.heap.size < _; omega) HF.out).trans s1, (hgrow.cell_far _ (by show w.heap.size < _; omega) HF.out).trans s2, (hgrow.cell_far _ (by show w.heap.size < _; omega) HF.out).trans s3, (hgrow.cell_far _ (by show w.heap.size < _; omega) HF.out).trans s4⟩)
    (first
      | (go_at_call 38; refine (copyInts_any _ _ _ _ _ (HS.out _ (by exact (by repeat (first | with_reducible exact Below.refl _ _ | with_reducible assumption | with_reducible refine Below.drew ?_ | with_reducible refine Below.drewN ?_ _ | with_reducible refine Below.alloc2 ?_ _ | with_reducible refine Below.alloc ?_ (by first | omega | (simp <;> omega)) _ | with_reducible refine Below.setCell ?_ (by first | omega | (simp <;> omega)) _ | with_reducible refine Below.step2 (by with_reducible assumption) ?_ | with_reducible refine Below.step (by with_reducible assumption) ?_ (by first | omega | (simp <;> omega)))))).a (by omega)).mono ?_; rintro e w1 ⟨hb1, v0, rfl, hown1⟩; have HB1 : Hid (Below w.heap.size w w1) := Lib.hid (by exact (by repeat (first | with_reducible exact Below.refl _ _ | with_reducible assumption | with_reducible refine Below.drew ?_ | with_reducible refine Below.drewN ?_ _ | with_reducible refine Below.alloc2 ?_ _ | with_reducible refine Below.alloc ?_ (by first | omega | (simp <;> omega)) _ | with_reducible refine Below.setCell ?_ (by first | omega | (simp <;> omega)) _ | with_reducible refine Below.step2 (by with_reducible assumption) ?_ | with_reducible refine Below.step (by with_reducible assumption) ?_ (by first | omega | (simp <;> omega))))); have HK1 : Hid (Bk w1 w.heap.size 24 #[.slice A n c, .slice A2 n2 c2, .int .i64 s.width, .int .i64 s.gap, .int .i64 s.lift]) := Lib.hid (by exact (by repeat (first | with_reducible assumption | with_reducible exact Bk.at_ (by first | (simp; done) | omega) | with_reducible refine Bk.alloc ?_ _ | with_reducible refine Bk.drew ?_ | with_reducible refine Bk.drewN ?_ _ | with_reducible refine Bk.step (by with_reducible assumption) ?_ (by first | omega | (simp <;> omega))))); obtain ⟨⟨s0, s1, s2, s3, s4⟩, -⟩ := HK1.out.five; have og1 := HK1.out.lt; have HO1 := Lib.hid hown1; have HF : Hid (some w.heap.size ≠ v0.ownBlock) := Lib.hid (fun e => by have := (HO1.out.lt _ e.symm).1; simp at this; omega); clear hb1 hown1)
      | (refine step_append_ints (by rfl) _ _ (by rfl) _ v0 n _ (by rfl) HO1.out A2 n2 c2 _ (by rfl) (HS.out _ HB1.out).b (by omega) (by have := HB1.out.size; simp; omega) ?_; intro v4 w4 hown4 hgrow))
  have HB4 : Hid (Below w.heap.size w w4) := Lib.hid (HB1.out.grown hgrow (by have := HB1.out.size; omega) (fun q hq => by have := (HO1.out.lt q hq).1; simp at this; omega))
  have hkx : Bk w4 w.heap.size 24 #[.slice A n c, .slice A2 n2 c2, .int .i64 s.width, .int .i64 s.gap, .int .i64 s.lift] := (hgrow.block _ og1 HF.out).trans HK1.out
  have HKX := Lib.hid hkx
  have ogx := hkx.lt
  obtain ⟨A', c', rfl, hi0⟩ := Ints.of_own (l := s.bays ++ s.boards) hown4
  have hcap' := hi0.nums.cap
  have hmax' := hi0.nums.max
  obtain ⟨N, hN⟩ : ∃ N, N = n + n2 := ⟨_, rfl⟩
  have HNN := Lib.hid hN
  rw [← HNN.out] at HLL hcap' hi0
  have HI : Hid (∀ w', Below w4.heap.size w4 w' → Nums w' w4.heap.size A' N c' s.all) := fun w' hb => hi0.nums.below hb (Nat.le_refl _) (Nat.le_refl _)
  have hN16 : N ≤ 16 := by omega
  clear hown4 hgrow hi0 hkx
  rw [← hN]
  clear hN
  go_wp2
  go_loop [4] (fun i => ∃ k : Nat, k ≤ N ∧ i = .int .i64 k ∧ Hid ((s.all.take k).all ok1 = true)) (fun i => N - (intOf i).toNat)
  case atStart => exact ⟨0, Nat.zero_le _, rfl, by exact Lib.hid rfl⟩
  case round =>
    obtain ⟨k, hk, rfl, hall⟩ := hrel
    by_cases hlt : k < N
    · obtain ⟨b, o, x, rfl, hbb, hx, d0⟩ := (HI.out _ (Below.refl _ _)).at_ hlt
      have HX := Lib.hid hx
      clear hx
      rcases hok : ok1 x
      · have HWX := Lib.hid (fun W : World => within_lit x 1 10000 false W hok)
        have HE := Lib.hid (Sys.err_range HSH.out (by rw [List.all_eq_false]; exact ⟨x, List.mem_of_getElem? HX.out, by rw [hok]; simp⟩))
        go_wp2_with (go_at_call_of 34 (Value.int .i64 (x)); refine (HWX.out _).mono ?_; rintro e w' ⟨rfl, rfl⟩)
        go_ret
        exact ⟨HB4.out, ret_int HE.out.symm⟩
      · have HWX := Lib.hid (fun W : World => within_lit x 1 10000 true W hok)
        have HOKX := Lib.hid hok
        go_wp2_with (go_at_call_of 34 (Value.int .i64 (x)); refine (HWX.out _).mono ?_; rintro e w' ⟨rfl, rfl⟩)
        go_round
        case rel =>
          refine ⟨k + 1, by omega, by go_num, Lib.hid ?_⟩
          obtain ⟨hk', e⟩ := List.getElem?_eq_some_iff.1 HX.out
          rw [List.take_succ_eq_append_getElem hk', List.all_append, hall.out, e]
          simpa using HOKX.out
        case measure => simp [intOf]; omega
    · have HA : Hid (s.all.all ok1 = true) := Lib.hid (by have := hall.out; rwa [List.take_of_length_le (by rw [HLL.out]; omega)] at this)
      obtain ⟨⟨c0, c1, c2', c3, c4⟩, -⟩ := HKX.out.five
      clear hall
      rcases hra : rise s.bays
      · have HRA := Lib.hid hra
        have HE := Lib.hid (Sys.err_order HSH.out HA.out (by rw [hra]; rfl))
        clear hra
        go_wp2_with (go_at_call_of 40 (Value.slice A n c); refine (refRising_any _ _ _ _ _ (HS.out _ HB4.out).a.nums).mono ?_; rintro e wp ⟨hbp, rfl⟩; rw [HRA.out]; have HBP : Hid (Below w.heap.size w wp) := Lib.hid (by have hb0 := HB4.out; exact (by repeat (first | with_reducible exact Below.refl _ _ | with_reducible assumption | with_reducible refine Below.drew ?_ | with_reducible refine Below.drewN ?_ _ | with_reducible refine Below.alloc2 ?_ _ | with_reducible refine Below.alloc ?_ (by first | omega | (simp <;> omega)) _ | with_reducible refine Below.setCell ?_ (by first | omega | (simp <;> omega)) _ | with_reducible refine Below.step2 (by with_reducible assumption) ?_ | with_reducible refine Below.step (by with_reducible assumption) ?_ (by first | omega | (simp <;> omega))))); have HKP := Lib.hid (HKX.out.below hbp ogx); obtain ⟨⟨p0, p1, p2, p3, p4⟩, -⟩ := HKP.out.five; have ogp := HKP.out.lt; clear hbp)
        go_ret
        exact ⟨HBP.out, ret_int HE.out.symm⟩
      have HRA := Lib.hid hra
      rcases hrb : rise s.boards
      · have HRB := Lib.hid hrb
        have HE := Lib.hid (Sys.err_order HSH.out HA.out (by rw [hra, hrb]; rfl))
        clear hra hrb
        go_wp2_with (first | (go_at_call_of 40 (Value.slice A n c); refine (refRising_any _ _ _ _ _ (HS.out _ HB4.out).a.nums).mono ?_; rintro e wp ⟨hbp, rfl⟩; rw [HRA.out]; have HBP : Hid (Below w.heap.size w wp) := Lib.hid (by have hb0 := HB4.out; exact (by repeat (first | with_reducible exact Below.refl _ _ | with_reducible assumption | with_reducible refine Below.drew ?_ | with_reducible refine Below.drewN ?_ _ | with_reducible refine Below.alloc2 ?_ _ | with_reducible refine Below.alloc ?_ (by first | omega | (simp <;> omega)) _ | with_reducible refine Below.setCell ?_ (by first | omega | (simp <;> omega)) _ | with_reducible refine Below.step2 (by with_reducible assumption) ?_ | with_reducible refine Below.step (by with_reducible assumption) ?_ (by first | omega | (simp <;> omega))))); have HKP := Lib.hid (HKX.out.below hbp ogx); obtain ⟨⟨p0, p1, p2, p3, p4⟩, -⟩ := HKP.out.five; have ogp := HKP.out.lt; clear hbp) | (go_at_call_of 40 (Value.slice A2 n2 c2); refine (refRising_any _ _ _ _ _ (HS.out _ HBP.out).b.nums).mono ?_; rintro e wq ⟨hbq, rfl⟩; rw [HRB.out]; have HBQ : Hid (Below w.heap.size w wq) := Lib.hid (by have hb0 := HBP.out; exact (by repeat (first | with_reducible exact Below.refl _ _ | with_reducible assumption | with_reducible refine Below.drew ?_ | with_reducible refine Below.drewN ?_ _ | with_reducible refine Below.alloc2 ?_ _ | with_reducible refine Below.alloc ?_ (by first | omega | (simp <;> omega)) _ | with_reducible refine Below.setCell ?_ (by first | omega | (simp <;> omega)) _ | with_reducible refine Below.step2 (by with_reducible assumption) ?_ | with_reducible refine Below.step (by with_reducible assumption) ?_ (by first | omega | (simp <;> omega))))); have HKQ := Lib.hid (HKP.out.below hbq ogp); obtain ⟨⟨q0, q1, q2, q3, q4⟩, -⟩ := HKQ.out.five; clear hbq))
        go_ret
        exact ⟨HBQ.out, ret_int HE.out.symm⟩
      have HRB := Lib.hid hrb
      have HE := Lib.hid (fun b hb => Sys.err_fine HSH.out HA.out (by rw [hra, hrb]; rfl) b hb)
      clear hra hrb
      rcases hwd : decide (1 ≤ s.width ∧ s.width ≤ 5000)
      · have HWD := Lib.hid (fun W : World => within_lit s.width 1 5000 false W hwd)
        have HR := Lib.hid (Sys.rest_false (s := s) (by simp at hwd; omega))
        clear hwd
        go_wp2_with (first | (go_at_call_of 40 (Value.slice A n c); refine (refRising_any _ _ _ _ _ (HS.out _ HB4.out).a.nums).mono ?_; rintro e wp ⟨hbp, rfl⟩; rw [HRA.out]; have HBP : Hid (Below w.heap.size w wp) := Lib.hid (by have hb0 := HB4.out; exact (by repeat (first | with_reducible exact Below.refl _ _ | with_reducible assumption | with_reducible refine Below.drew ?_ | with_reducible refine Below.drewN ?_ _ | with_reducible refine Below.alloc2 ?_ _ | with_reducible refine Below.alloc ?_ (by first | omega | (simp <;> omega)) _ | with_reducible refine Below.setCell ?_ (by first | omega | (simp <;> omega)) _ | with_reducible refine Below.step2 (by with_reducible assumption) ?_ | with_reducible refine Below.step (by with_reducible assumption) ?_ (by first | omega | (simp <;> omega))))); have HKP := Lib.hid (HKX.out.below hbp ogx); obtain ⟨⟨p0, p1, p2, p3, p4⟩, -⟩ := HKP.out.five; have ogp := HKP.out.lt; clear hbp) | (go_at_call_of 40 (Value.slice A2 n2 c2); refine (refRising_any _ _ _ _ _ (HS.out _ HBP.out).b.nums).mono ?_; rintro e wq ⟨hbq, rfl⟩; rw [HRB.out]; have HBQ : Hid (Below w.heap.size w wq) := Lib.hid (by have hb0 := HBP.out; exact (by repeat (first | with_reducible exact Below.refl _ _ | with_reducible assumption | with_reducible refine Below.drew ?_ | with_reducible refine Below.drewN ?_ _ | with_reducible refine Below.alloc2 ?_ _ | with_reducible refine Below.alloc ?_ (by first | omega | (simp <;> omega)) _ | with_reducible refine Below.setCell ?_ (by first | omega | (simp <;> omega)) _ | with_reducible refine Below.step2 (by with_reducible assumption) ?_ | with_reducible refine Below.step (by with_reducible assumption) ?_ (by first | omega | (simp <;> omega))))); have HKQ := Lib.hid (HKP.out.below hbq ogp); obtain ⟨⟨q0, q1, q2, q3, q4⟩, -⟩ := HKQ.out.five; clear hbq) | (go_at_call_of 34 (Value.int .i64 (s.width)); refine (HWD.out _).mono ?_; rintro e w' ⟨rfl, rfl⟩))
        go_ret
        exact ⟨HBQ.out, ret_int (HE.out _ HR.out).symm⟩
      have HWD := Lib.hid (fun W : World => within_lit s.width 1 5000 true W hwd)
      rcases hgd : decide (0 ≤ s.gap ∧ s.gap ≤ 5000)
      · have HGD := Lib.hid (fun W : World => within_lit s.gap 0 5000 false W hgd)
        have HR := Lib.hid (Sys.rest_false (s := s) (by simp at hgd; omega))
        clear hwd hgd
        go_wp2_with (first | (go_at_call_of 40 (Value.slice A n c); refine (refRising_any _ _ _ _ _ (HS.out _ HB4.out).a.nums).mono ?_; rintro e wp ⟨hbp, rfl⟩; rw [HRA.out]; have HBP : Hid (Below w.heap.size w wp) := Lib.hid (by have hb0 := HB4.out; exact (by repeat (first | with_reducible exact Below.refl _ _ | with_reducible assumption | with_reducible refine Below.drew ?_ | with_reducible refine Below.drewN ?_ _ | with_reducible refine Below.alloc2 ?_ _ | with_reducible refine Below.alloc ?_ (by first | omega | (simp <;> omega)) _ | with_reducible refine Below.setCell ?_ (by first | omega | (simp <;> omega)) _ | with_reducible refine Below.step2 (by with_reducible assumption) ?_ | with_reducible refine Below.step (by with_reducible assumption) ?_ (by first | omega | (simp <;> omega))))); have HKP := Lib.hid (HKX.out.below hbp ogx); obtain ⟨⟨p0, p1, p2, p3, p4⟩, -⟩ := HKP.out.five; have ogp := HKP.out.lt; clear hbp) | (go_at_call_of 40 (Value.slice A2 n2 c2); refine (refRising_any _ _ _ _ _ (HS.out _ HBP.out).b.nums).mono ?_; rintro e wq ⟨hbq, rfl⟩; rw [HRB.out]; have HBQ : Hid (Below w.heap.size w wq) := Lib.hid (by have hb0 := HBP.out; exact (by repeat (first | with_reducible exact Below.refl _ _ | with_reducible assumption | with_reducible refine Below.drew ?_ | with_reducible refine Below.drewN ?_ _ | with_reducible refine Below.alloc2 ?_ _ | with_reducible refine Below.alloc ?_ (by first | omega | (simp <;> omega)) _ | with_reducible refine Below.setCell ?_ (by first | omega | (simp <;> omega)) _ | with_reducible refine Below.step2 (by with_reducible assumption) ?_ | with_reducible refine Below.step (by with_reducible assumption) ?_ (by first | omega | (simp <;> omega))))); have HKQ := Lib.hid (HKP.out.below hbq ogp); obtain ⟨⟨q0, q1, q2, q3, q4⟩, -⟩ := HKQ.out.five; clear hbq) | (go_at_call_of 34 (Value.int .i64 0); refine (HGD.out _).mono ?_; rintro e w' ⟨rfl, rfl⟩) | (go_at_call_of 34 (Value.int .i64 5000); refine (HWD.out _).mono ?_; rintro e w' ⟨rfl, rfl⟩))
        go_ret
        exact ⟨HBQ.out, ret_int (HE.out _ HR.out).symm⟩
      have HGD := Lib.hid (fun W : World => within_lit s.gap 0 5000 true W hgd)
      rcases hld : decide (1 ≤ s.lift ∧ s.lift ≤ 10000)
      · have HLD := Lib.hid (fun W : World => within_lit s.lift 1 10000 false W hld)
        have HR := Lib.hid (Sys.rest_false (s := s) (by simp at hld; omega))
        clear hwd hgd hld
        go_wp2_with (first | (go_at_call_of 40 (Value.slice A n c); refine (refRising_any _ _ _ _ _ (HS.out _ HB4.out).a.nums).mono ?_; rintro e wp ⟨hbp, rfl⟩; rw [HRA.out]; have HBP : Hid (Below w.heap.size w wp) := Lib.hid (by have hb0 := HB4.out; exact (by repeat (first | with_reducible exact Below.refl _ _ | with_reducible assumption | with_reducible refine Below.drew ?_ | with_reducible refine Below.drewN ?_ _ | with_reducible refine Below.alloc2 ?_ _ | with_reducible refine Below.alloc ?_ (by first | omega | (simp <;> omega)) _ | with_reducible refine Below.setCell ?_ (by first | omega | (simp <;> omega)) _ | with_reducible refine Below.step2 (by with_reducible assumption) ?_ | with_reducible refine Below.step (by with_reducible assumption) ?_ (by first | omega | (simp <;> omega))))); have HKP := Lib.hid (HKX.out.below hbp ogx); obtain ⟨⟨p0, p1, p2, p3, p4⟩, -⟩ := HKP.out.five; have ogp := HKP.out.lt; clear hbp) | (go_at_call_of 40 (Value.slice A2 n2 c2); refine (refRising_any _ _ _ _ _ (HS.out _ HBP.out).b.nums).mono ?_; rintro e wq ⟨hbq, rfl⟩; rw [HRB.out]; have HBQ : Hid (Below w.heap.size w wq) := Lib.hid (by have hb0 := HBP.out; exact (by repeat (first | with_reducible exact Below.refl _ _ | with_reducible assumption | with_reducible refine Below.drew ?_ | with_reducible refine Below.drewN ?_ _ | with_reducible refine Below.alloc2 ?_ _ | with_reducible refine Below.alloc ?_ (by first | omega | (simp <;> omega)) _ | with_reducible refine Below.setCell ?_ (by first | omega | (simp <;> omega)) _ | with_reducible refine Below.step2 (by with_reducible assumption) ?_ | with_reducible refine Below.step (by with_reducible assumption) ?_ (by first | omega | (simp <;> omega))))); have HKQ := Lib.hid (HKP.out.below hbq ogp); obtain ⟨⟨q0, q1, q2, q3, q4⟩, -⟩ := HKQ.out.five; clear hbq) | (go_at_call_of 34 (Value.int .i64 0); refine (HGD.out _).mono ?_; rintro e w' ⟨rfl, rfl⟩) | (go_at_call_of 34 (Value.int .i64 5000); refine (HWD.out _).mono ?_; rintro e w' ⟨rfl, rfl⟩) | (go_at_call_of 34 (Value.int .i64 10000); refine (HLD.out _).mono ?_; rintro e w' ⟨rfl, rfl⟩))
        go_ret
        exact ⟨HBQ.out, ret_int (HE.out _ HR.out).symm⟩
      · have HLD := Lib.hid (fun W : World => within_lit s.lift 1 10000 true W hld)
        have HR := Lib.hid (Sys.rest_true (s := s) (by simp at hwd hgd hld; omega))
        clear hwd hgd hld
        go_wp2_with (first | (go_at_call_of 40 (Value.slice A n c); refine (refRising_any _ _ _ _ _ (HS.out _ HB4.out).a.nums).mono ?_; rintro e wp ⟨hbp, rfl⟩; rw [HRA.out]; have HBP : Hid (Below w.heap.size w wp) := Lib.hid (by have hb0 := HB4.out; exact (by repeat (first | with_reducible exact Below.refl _ _ | with_reducible assumption | with_reducible refine Below.drew ?_ | with_reducible refine Below.drewN ?_ _ | with_reducible refine Below.alloc2 ?_ _ | with_reducible refine Below.alloc ?_ (by first | omega | (simp <;> omega)) _ | with_reducible refine Below.setCell ?_ (by first | omega | (simp <;> omega)) _ | with_reducible refine Below.step2 (by with_reducible assumption) ?_ | with_reducible refine Below.step (by with_reducible assumption) ?_ (by first | omega | (simp <;> omega))))); have HKP := Lib.hid (HKX.out.below hbp ogx); obtain ⟨⟨p0, p1, p2, p3, p4⟩, -⟩ := HKP.out.five; have ogp := HKP.out.lt; clear hbp) | (go_at_call_of 40 (Value.slice A2 n2 c2); refine (refRising_any _ _ _ _ _ (HS.out _ HBP.out).b.nums).mono ?_; rintro e wq ⟨hbq, rfl⟩; rw [HRB.out]; have HBQ : Hid (Below w.heap.size w wq) := Lib.hid (by have hb0 := HBP.out; exact (by repeat (first | with_reducible exact Below.refl _ _ | with_reducible assumption | with_reducible refine Below.drew ?_ | with_reducible refine Below.drewN ?_ _ | with_reducible refine Below.alloc2 ?_ _ | with_reducible refine Below.alloc ?_ (by first | omega | (simp <;> omega)) _ | with_reducible refine Below.setCell ?_ (by first | omega | (simp <;> omega)) _ | with_reducible refine Below.step2 (by with_reducible assumption) ?_ | with_reducible refine Below.step (by with_reducible assumption) ?_ (by first | omega | (simp <;> omega))))); have HKQ := Lib.hid (HKP.out.below hbq ogp); obtain ⟨⟨q0, q1, q2, q3, q4⟩, -⟩ := HKQ.out.five; clear hbq) | (go_at_call_of 34 (Value.int .i64 0); refine (HGD.out _).mono ?_; rintro e w' ⟨rfl, rfl⟩) | (go_at_call_of 34 (Value.int .i64 5000); refine (HWD.out _).mono ?_; rintro e w' ⟨rfl, rfl⟩) | (go_at_call_of 34 (Value.int .i64 10000); refine (HLD.out _).mono ?_; rintro e w' ⟨rfl, rfl⟩))
        go_ret
        exact ⟨HBQ.out, ret_int (HE.out _ HR.out).symm⟩

theorem refCheck_any (A A2 : Option Addr) (n c n2 c2 : Nat) (s : Sys) (w : World) (h : SysAt w w.heap.size A n c A2 n2 c2 s) :
    Calls Try.prog 16 #[.agg #[.slice A n c, .slice A2 n2 c2, .int .i64 s.width, .int .i64 s.gap, .int .i64 s.lift]] w fun e w' => Below w.heap.size w w' ∧ e = .returned (.int .i64 s.err) := by
  by_cases h1 : n < 1 ∨ 8 < n ∨ 8 < n2
  · exact refCheck_shape _ _ _ _ _ _ _ _ h h1
  · exact refCheck_all _ _ _ _ _ _ _ _ h h1

end Go.Proofs.Ytkcbfkflkepfeaa
