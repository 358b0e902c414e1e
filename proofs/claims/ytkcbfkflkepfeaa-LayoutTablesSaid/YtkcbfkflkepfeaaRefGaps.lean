/- Walks of the reference: Gaps. -/
import Derived.Test.YtkcbfkflkepfeaaRefTable
import Derived.Test.YtkcbfkflkepfeaaTableBad
namespace Go.Proofs.Ytkcbfkflkepfeaa
open Go.RowKit

theorem refTable_any (A A2 : Option Addr) (n c n2 c2 : Nat) (s : Sys) (w : World) (h : SysAt w w.heap.size A n c A2 n2 c2 s) (hs : s.Ok) (x : Int) (hx0 : 0 ≤ x) (hx1 : x ≤ 4000 * s.unit) :
    Calls Try.prog 30 #[.agg #[.slice A n c, .slice A2 n2 c2, .int .i64 s.width, .int .i64 s.gap, .int .i64 s.lift], .int .i64 x] w fun e w' => Below w.heap.size w w' ∧ ∃ TA tc, e = .returned (.slice TA ((x.tdiv s.unit).toNat + 1) tc) ∧ Ints w' w'.heap.size TA ((x.tdiv s.unit).toNat + 1) tc (tab s.parts (x.tdiv s.unit).toNat) := by
  have hu := hs.unit_bd
  have h0 : 0 ≤ x.tdiv s.unit := Int.tdiv_nonneg hx0 (by omega)
  have h4 : x.tdiv s.unit ≤ 4000 := by
    rw [Int.tdiv_eq_ediv_of_nonneg hx0]
    exact Int.ediv_le_of_le_mul (by omega) (by omega)
  refine refTable_n _ _ _ _ _ _ s w h hs x _ (x.tmod s.unit) ?_ (Int.tmod_nonneg _ hx0) (Int.tmod_lt_of_pos x (by omega)) (by omega)
  rw [Int.toNat_of_nonneg h0]
  exact (Int.mul_tdiv_add_tmod x s.unit).symm

set_option maxRecDepth 100000 in
set_option maxHeartbeats 8000000 in
theorem refGaps_any (A A2 : Option Addr) (n c n2 c2 : Nat) (s : Sys) (w : World) (h : SysAt w w.heap.size A n c A2 n2 c2 s) (hs : s.Ok) (x : Int) (hx0 : 0 ≤ x) (hx1 : x ≤ 4000 * s.unit) :
    Calls Try.prog 31 #[.agg #[.slice A n c, .slice A2 n2 c2, .int .i64 s.width, .int .i64 s.gap, .int .i64 s.lift], .int .i64 x] w fun e w' => Below w.heap.size w w' ∧
      ∃ GA gn gc, e = .returned (.slice GA gn gc) ∧ Ints w' w'.heap.size GA gn gc (gapsTo (tab s.parts (x.tdiv s.unit).toNat) s.unit ((x.tdiv s.unit).toNat + 1)) := by
  have hcapA := h.a.nums.cap; have hmaxA := h.a.nums.max; have hcapB := h.b.nums.cap; have hmaxB := h.b.nums.max; have HLA := Lib.hid h.a.nums.len; have HLB := Lib.hid h.b.nums.len; have H : Hid (∀ w', Below w.heap.size w w' → SysAt w' w.heap.size A n c A2 n2 c2 s) := fun w' hb => h.below hb (Nat.le_refl _) (Nat.le_refl _); have HS : Hid (∀ w', Below w.heap.size w w' → SysAt w' w'.heap.size A n c A2 n2 c2 s) := fun w' hb => h.below hb (Nat.le_refl _) hb.size; clear h
  have HOK := Lib.hid hs
  have hu := hs.unit_bd
  obtain ⟨hu1, hu2⟩ := hu
  have HT := Lib.hid (fun (W : World) (hW : Below w.heap.size w W) => refTable_any A A2 n c n2 c2 s W (HS.out W hW) hs x hx0 hx1)
  have hN4 : (x.tdiv s.unit).toNat ≤ 4000 := by
    have : x.tdiv s.unit ≤ 4000 := by
      rw [Int.tdiv_eq_ediv_of_nonneg hx0]
      exact Int.ediv_le_of_le_mul (by omega) (by omega)
    omega
  have HLT := Lib.hid (tab_length s.parts (x.tdiv s.unit).toNat)
  have HCD : Hid (∀ y ∈ tab s.parts (x.tdiv s.unit).toNat, -1 ≤ y) := Lib.hid (fun y hy => (tab_codes hs.fine _ y hy).1)
  obtain ⟨i0, hi0, hz0, hz1, hz2⟩ := info_parts info_int
  have HI0 := Lib.hid hi0
  have HZ0 := Lib.hid hz0
  have HZ1 := Lib.hid hz1
  have HZ2 := Lib.hid hz2
  clear hs hx0 hx1 hi0 hz0 hz1 hz2
  generalize tab s.parts (x.tdiv s.unit).toNat = T at *
  obtain ⟨N, hN⟩ : ∃ N, (x.tdiv s.unit).toNat + 1 = N := ⟨_, rfl⟩
  have hN1 : N ≤ 4001 := by omega
  rw [hN] at HT HLT ⊢
  clear hN hN4
  go_enter Try.func31, Try.ntmps31
  go_wp2_with (go_at_call 30; refine (HT.out _ (by exact (by repeat (first | with_reducible exact Below.refl _ _ | with_reducible assumption | with_reducible refine Below.drew ?_ | with_reducible refine Below.drewN ?_ _ | with_reducible refine Below.alloc2 ?_ _ | with_reducible refine Below.alloc ?_ (by first | omega | (simp <;> omega)) _ | with_reducible refine Below.setCell ?_ (by first | omega | (simp <;> omega)) _ | with_reducible refine Below.step2 (by with_reducible assumption) ?_ | with_reducible refine Below.step (by with_reducible assumption) ?_ (by first | omega | (simp <;> omega)))))).mono ?_; rintro e w2 ⟨hb2, TA, tc, rfl, ht⟩; have HB2 : Hid (Below w.heap.size w w2) := Lib.hid (by exact (by repeat (first | with_reducible exact Below.refl _ _ | with_reducible assumption | with_reducible refine Below.drew ?_ | with_reducible refine Below.drewN ?_ _ | with_reducible refine Below.alloc2 ?_ _ | with_reducible refine Below.alloc ?_ (by first | omega | (simp <;> omega)) _ | with_reducible refine Below.setCell ?_ (by first | omega | (simp <;> omega)) _ | with_reducible refine Below.step2 (by with_reducible assumption) ?_ | with_reducible refine Below.step (by with_reducible assumption) ?_ (by first | omega | (simp <;> omega))))); have HK2 : Hid (Bk w2 w.heap.size 24 #[.slice A n c, .slice A2 n2 c2, .int .i64 s.width, .int .i64 s.gap, .int .i64 s.lift]) := Lib.hid (by exact (by repeat (first | with_reducible assumption | with_reducible exact Bk.at_ (by first | (simp; done) | omega) | with_reducible refine Bk.alloc ?_ _ | with_reducible refine Bk.drew ?_ | with_reducible refine Bk.drewN ?_ _ | with_reducible refine Bk.step (by with_reducible assumption) ?_ (by first | omega | (simp <;> omega))))); have HTT := Lib.hid ht; clear hb2 ht)
  have htc := HTT.out.nums.cap
  have htm := HTT.out.nums.max
  have oz2 := HB2.out.size
  have ok2 := HK2.out.lt
  go_wp2
  go_loopw [5, 7] (fun v i wr => ∃ k : Nat, k ≤ N ∧ i = .int .i64 k ∧ wr.ownsRow w2.heap.size 3 1 v (gapsTo T s.unit k).length (i64s (gapsTo T s.unit k)) ∧ Below w2.heap.size w2 wr) (fun _ i _ => N - (intOf i).toNat)
  case atStart => exact ⟨0, Nat.zero_le _, rfl, World.ownsRow_nil _ _ _ _, Below.refl _ _⟩
  case round =>
    obtain ⟨k, hk, rfl, hown, hb⟩ := hrel
    have HOWN := Lib.hid hown
    have HB := Lib.hid hb
    have HKR := Lib.hid (HK2.out.below hb ok2)
    obtain ⟨⟨a0, a1, a2, a3, a4⟩, -⟩ := HKR.out.five
    have owr := hb.size
    by_cases hlt : k < N
    · obtain ⟨b, o, y, rfl, hbb, hy, d0⟩ := (HTT.out.below hb (Nat.le_refl _) (Nat.le_refl _)).nums.at_ hlt
      have HY := Lib.hid (getD_of hy)
      have hym := HCD.out y (List.mem_of_getElem? hy)
      have ob : b < wr.heap.size := by omega
      have hgl := gapsTo_len T s.unit k
      have hm1 : (0 : Int) ≤ (k : Int) * s.unit := Int.mul_nonneg (by omega) (by omega)
      have hm2 : (k : Int) * s.unit ≤ 50000000 := by
        have h1 := Int.mul_le_mul_of_nonneg_right (show (k : Int) ≤ 4001 by omega) (show 0 ≤ s.unit by omega)
        have h2 := Int.mul_le_mul_of_nonneg_left hu2 (show (0 : Int) ≤ 4001 by omega)
        omega
      have hmw : IntKind.i64.wrap ((k : Int) * s.unit) = (k : Int) * s.unit := IntWalk.i64_in _ (by omega)
      clear hy hown hb hbb
      by_cases hy1 : y = -1
      · have HG : Hid (gapsTo T s.unit (k + 1) = gapsTo T s.unit k ++ [(k : Int) * s.unit]) := Lib.hid (by simp only [gapsTo]; rw [HY.out, if_pos hy1])
        generalize hku : (k : Int) * s.unit = ku at *
        have hy0 : y < 0 := by omega
        clear hy1
        go_wp2_with (first
          | (go_at_call 46; refine (refUnit_any _ _ _ _ _ _ _ _ (HS.out _ (by have hb0 := HB2.out; have hb1 := HB.out; exact (by repeat (first | with_reducible exact Below.refl _ _ | with_reducible assumption | with_reducible refine Below.drew ?_ | with_reducible refine Below.drewN ?_ _ | with_reducible refine Below.alloc2 ?_ _ | with_reducible refine Below.alloc ?_ (by first | omega | (simp <;> omega)) _ | with_reducible refine Below.setCell ?_ (by first | omega | (simp <;> omega)) _ | with_reducible refine Below.step2 (by with_reducible assumption) ?_ | with_reducible refine Below.step (by with_reducible assumption) ?_ (by first | omega | (simp <;> omega)))))) HOK.out).mono ?_; rintro e wu ⟨hbu, rfl⟩; have HBU := Lib.hid hbu; have HOU := Lib.hid (own_step HOWN.out hbu); have ozu := hbu.size; clear hbu)
          | (at_builtin; refine wpList_append_own_at _ rfl _ _ _ rfl w2.heap.size 3 i0 _ 1 8 Try.underlying22 HI0.out HZ0.out HZ1.out HZ2.out rfl (by omega) _ _ _ rfl (HOU.out.alloc _) ⟨wu.heap.size, 0, none⟩ 1 1 [.int .i64 ku] rfl rfl (World.news_of_block (cs := #[.int .i64 ku]) (t := 3) (fr := (0, 0)) (heap_alloc_new wu _)) (i64s_one [ku]) (by unfold maxLen; omega) (by omega) (by simp; omega) ?_; intro v1 w1 hown1 hg1 _ _; have HO1 := Lib.hid hown1; have HG1 := Lib.hid hg1; clear hown1 hg1))
        go_roundw
        case rel =>
          have hb := HB.out
          have hbu := HBU.out
          have hbl : Below w2.heap.size w2 wu := (by repeat (first | with_reducible exact Below.refl _ _ | with_reducible assumption | with_reducible refine Below.drew ?_ | with_reducible refine Below.drewN ?_ _ | with_reducible refine Below.alloc2 ?_ _ | with_reducible refine Below.alloc ?_ (by first | omega | (simp <;> omega)) _ | with_reducible refine Below.setCell ?_ (by first | omega | (simp <;> omega)) _ | with_reducible refine Below.step2 (by with_reducible assumption) ?_ | with_reducible refine Below.step (by with_reducible assumption) ?_ (by first | omega | (simp <;> omega))))
          refine ⟨k + 1, by omega, by go_num, ?_, (Below.alloc hbl hbl.size _).grown HG1.out (by simp; omega) (fun q hq => (HOU.out.lt _ hq).1)⟩
          rw [HG.out, i64s_append, List.length_append]
          exact HO1.out
        case measure => simp [intOf]; omega
      · have HG : Hid (gapsTo T s.unit (k + 1) = gapsTo T s.unit k) := Lib.hid (by simp only [gapsTo]; rw [HY.out, if_neg hy1]; simp)
        have hy0 : ¬ y < 0 := by omega
        clear hy1
        go_wp2
        go_roundw
        case rel => exact ⟨k + 1, by omega, by go_num, by rw [HG.out]; exact HOWN.out, HB.out⟩
        case measure => simp [intOf]; omega
    · have e : N = k := by omega
      subst e
      obtain ⟨GA, gc, rfl, hi⟩ := Ints.of_own hown
      have HIG := Lib.hid hi
      clear hown hb hi
      go_wp2
      go_ret
      have hb0 := HB2.out
      have hb := HB.out
      exact ⟨(by repeat (first | with_reducible exact Below.refl _ _ | with_reducible assumption | with_reducible refine Below.drew ?_ | with_reducible refine Below.drewN ?_ _ | with_reducible refine Below.alloc2 ?_ _ | with_reducible refine Below.alloc ?_ (by first | omega | (simp <;> omega)) _ | with_reducible refine Below.setCell ?_ (by first | omega | (simp <;> omega)) _ | with_reducible refine Below.step2 (by with_reducible assumption) ?_ | with_reducible refine Below.step (by with_reducible assumption) ?_ (by first | omega | (simp <;> omega)))), _, _, _, rfl, HIG.out⟩

end Go.Proofs.Ytkcbfkflkepfeaa
