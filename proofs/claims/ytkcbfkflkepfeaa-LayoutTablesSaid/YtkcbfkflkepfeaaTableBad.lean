/- Walks: Table and Gaps of the program. -/
import Derived.Test.YtkcbfkflkepfeaaTableFn2
namespace Go.Proofs.Ytkcbfkflkepfeaa
open Go.RowKit

set_option maxHeartbeats 4000000 in
theorem tableUpTo_bad (A A2 : Option Addr) (n c n2 c2 : Nat) (s : Sys) (w : World) (h : SysAt w w.heap.size A n c A2 n2 c2 s) (x z : Int) (he : s.bothErr x = z) (hz : z ≠ 0) :
    Calls Try.prog 43 #[.agg #[.slice A n c, .slice A2 n2 c2, .int .i64 s.width, .int .i64 s.gap, .int .i64 s.lift], .int .i64 x] w fun e w' => Below w.heap.size w w' ∧ e = .returned (.tuple #[.agg #[.int .i64 0, .slice none 0 0, .slice none 0 0], .int .i64 z]) := by
  have hcapA := h.a.nums.cap; have hmaxA := h.a.nums.max; have hcapB := h.b.nums.cap; have hmaxB := h.b.nums.max; have HLA := Lib.hid h.a.nums.len; have HLB := Lib.hid h.b.nums.len; have H : Hid (∀ w', Below w.heap.size w w' → SysAt w' w.heap.size A n c A2 n2 c2 s) := fun w' hb => h.below hb (Nat.le_refl _) (Nat.le_refl _); have HS : Hid (∀ w', Below w.heap.size w w' → SysAt w' w'.heap.size A n c A2 n2 c2 s) := fun w' hb => h.below hb (Nat.le_refl _) hb.size; clear h
  have HE := Lib.hid he
  have hzb : (z == 0) = false := by simpa using hz
  clear he
  go_enter Try.func43, Try.ntmps43
  go_wp2_with (go_at_call 48; refine (sysLen_any _ _ _ _ _ _ _ _ (HS.out _ (by exact (by repeat (first | with_reducible exact Below.refl _ _ | with_reducible assumption | with_reducible refine Below.drew ?_ | with_reducible refine Below.drewN ?_ _ | with_reducible refine Below.alloc2 ?_ _ | with_reducible refine Below.alloc ?_ (by first | omega | (simp <;> omega)) _ | with_reducible refine Below.setCell ?_ (by first | omega | (simp <;> omega)) _ | with_reducible refine Below.step2 (by with_reducible assumption) ?_ | with_reducible refine Below.step (by with_reducible assumption) ?_ (by first | omega | (simp <;> omega)))))) _).mono ?_; rintro e w1 ⟨hb1, rfl⟩; rw [HE.out]; have HB1 : Hid (Below w.heap.size w w1) := Lib.hid (by exact (by repeat (first | with_reducible exact Below.refl _ _ | with_reducible assumption | with_reducible refine Below.drew ?_ | with_reducible refine Below.drewN ?_ _ | with_reducible refine Below.alloc2 ?_ _ | with_reducible refine Below.alloc ?_ (by first | omega | (simp <;> omega)) _ | with_reducible refine Below.setCell ?_ (by first | omega | (simp <;> omega)) _ | with_reducible refine Below.step2 (by with_reducible assumption) ?_ | with_reducible refine Below.step (by with_reducible assumption) ?_ (by first | omega | (simp <;> omega))))); have HR1 : Hid (Bk w1 (w.heap.size + 1) 68 #[.int .i64 0, .slice none 0 0, .slice none 0 0]) := Lib.hid (by exact (by repeat (first | with_reducible assumption | with_reducible exact Bk.at_ (by first | (simp; done) | omega) | with_reducible refine Bk.alloc ?_ _ | with_reducible refine Bk.drew ?_ | with_reducible refine Bk.drewN ?_ _ | with_reducible refine Bk.step (by with_reducible assumption) ?_ (by first | omega | (simp <;> omega))))); obtain ⟨⟨t0, t1, t2⟩, f0, f1, f2⟩ := HR1.out.three; have oz1 := HB1.out.size; have og1 := HR1.out.lt; clear hb1)
  have hb0 := HB1.out
  refine bodyPost_ret (v := .tuple #[.agg #[.int .i64 0, .slice none 0 0, .slice none 0 0], .int .i64 z]) (by simp [results, Try.results43, go_sem, t0, t1, t2]) rfl ⟨(by repeat (first | with_reducible exact Below.refl _ _ | with_reducible assumption | with_reducible refine Below.drew ?_ | with_reducible refine Below.drewN ?_ _ | with_reducible refine Below.alloc2 ?_ _ | with_reducible refine Below.alloc ?_ (by first | omega | (simp <;> omega)) _ | with_reducible refine Below.setCell ?_ (by first | omega | (simp <;> omega)) _ | with_reducible refine Below.step2 (by with_reducible assumption) ?_ | with_reducible refine Below.step (by with_reducible assumption) ?_ (by first | omega | (simp <;> omega)))), rfl⟩

set_option maxHeartbeats 4000000 in
theorem table_bad (A A2 : Option Addr) (n c n2 c2 : Nat) (s : Sys) (w : World) (h : SysAt w w.heap.size A n c A2 n2 c2 s) (x z : Int) (he : s.bothErr x = z) (hz : z ≠ 0) :
    Calls Try.prog 27 #[.agg #[.slice A n c, .slice A2 n2 c2, .int .i64 s.width, .int .i64 s.gap, .int .i64 s.lift], .int .i64 x] w fun e w' => Below w.heap.size w w' ∧ e = .returned (.tuple #[.slice none 0 0, .int .i64 z]) := by
  have hcapA := h.a.nums.cap; have hmaxA := h.a.nums.max; have hcapB := h.b.nums.cap; have hmaxB := h.b.nums.max; have HLA := Lib.hid h.a.nums.len; have HLB := Lib.hid h.b.nums.len; have H : Hid (∀ w', Below w.heap.size w w' → SysAt w' w.heap.size A n c A2 n2 c2 s) := fun w' hb => h.below hb (Nat.le_refl _) (Nat.le_refl _); have HS : Hid (∀ w', Below w.heap.size w w' → SysAt w' w'.heap.size A n c A2 n2 c2 s) := fun w' hb => h.below hb (Nat.le_refl _) hb.size; clear h
  have HT := Lib.hid (fun (W : World) (hW : Below w.heap.size w W) => tableUpTo_bad A A2 n c n2 c2 s W (HS.out W hW) x z he hz)
  clear he hz
  go_enter Try.func27, Try.ntmps27
  go_wp2_with (go_at_call 43; refine (HT.out _ (by exact (by repeat (first | with_reducible exact Below.refl _ _ | with_reducible assumption | with_reducible refine Below.drew ?_ | with_reducible refine Below.drewN ?_ _ | with_reducible refine Below.alloc2 ?_ _ | with_reducible refine Below.alloc ?_ (by first | omega | (simp <;> omega)) _ | with_reducible refine Below.setCell ?_ (by first | omega | (simp <;> omega)) _ | with_reducible refine Below.step2 (by with_reducible assumption) ?_ | with_reducible refine Below.step (by with_reducible assumption) ?_ (by first | omega | (simp <;> omega)))))).mono ?_; rintro e w2 ⟨hb2, rfl⟩; have HB2 : Hid (Below w.heap.size w w2) := Lib.hid (by exact (by repeat (first | with_reducible exact Below.refl _ _ | with_reducible assumption | with_reducible refine Below.drew ?_ | with_reducible refine Below.drewN ?_ _ | with_reducible refine Below.alloc2 ?_ _ | with_reducible refine Below.alloc ?_ (by first | omega | (simp <;> omega)) _ | with_reducible refine Below.setCell ?_ (by first | omega | (simp <;> omega)) _ | with_reducible refine Below.step2 (by with_reducible assumption) ?_ | with_reducible refine Below.step (by with_reducible assumption) ?_ (by first | omega | (simp <;> omega))))); clear hb2)
  go_ret2
  have hb0 := HB2.out
  exact ⟨(by repeat (first | with_reducible exact Below.refl _ _ | with_reducible assumption | with_reducible refine Below.drew ?_ | with_reducible refine Below.drewN ?_ _ | with_reducible refine Below.alloc2 ?_ _ | with_reducible refine Below.alloc ?_ (by first | omega | (simp <;> omega)) _ | with_reducible refine Below.setCell ?_ (by first | omega | (simp <;> omega)) _ | with_reducible refine Below.step2 (by with_reducible assumption) ?_ | with_reducible refine Below.step (by with_reducible assumption) ?_ (by first | omega | (simp <;> omega)))), rfl⟩

set_option maxHeartbeats 4000000 in
theorem gaps_bad (A A2 : Option Addr) (n c n2 c2 : Nat) (s : Sys) (w : World) (h : SysAt w w.heap.size A n c A2 n2 c2 s) (x z : Int) (he : s.bothErr x = z) (hz : z ≠ 0) :
    Calls Try.prog 28 #[.agg #[.slice A n c, .slice A2 n2 c2, .int .i64 s.width, .int .i64 s.gap, .int .i64 s.lift], .int .i64 x] w fun e w' => Below w.heap.size w w' ∧ e = .returned (.tuple #[.slice none 0 0, .int .i64 z]) := by
  have hcapA := h.a.nums.cap; have hmaxA := h.a.nums.max; have hcapB := h.b.nums.cap; have hmaxB := h.b.nums.max; have HLA := Lib.hid h.a.nums.len; have HLB := Lib.hid h.b.nums.len; have H : Hid (∀ w', Below w.heap.size w w' → SysAt w' w.heap.size A n c A2 n2 c2 s) := fun w' hb => h.below hb (Nat.le_refl _) (Nat.le_refl _); have HS : Hid (∀ w', Below w.heap.size w w' → SysAt w' w'.heap.size A n c A2 n2 c2 s) := fun w' hb => h.below hb (Nat.le_refl _) hb.size; clear h
  have HT := Lib.hid (fun (W : World) (hW : Below w.heap.size w W) => tableUpTo_bad A A2 n c n2 c2 s W (HS.out W hW) x z he hz)
  clear he hz
  go_enter Try.func28, Try.ntmps28
  go_wp2_with (go_at_call 43; refine (HT.out _ (by exact (by repeat (first | with_reducible exact Below.refl _ _ | with_reducible assumption | with_reducible refine Below.drew ?_ | with_reducible refine Below.drewN ?_ _ | with_reducible refine Below.alloc2 ?_ _ | with_reducible refine Below.alloc ?_ (by first | omega | (simp <;> omega)) _ | with_reducible refine Below.setCell ?_ (by first | omega | (simp <;> omega)) _ | with_reducible refine Below.step2 (by with_reducible assumption) ?_ | with_reducible refine Below.step (by with_reducible assumption) ?_ (by first | omega | (simp <;> omega)))))).mono ?_; rintro e w2 ⟨hb2, rfl⟩; have HB2 : Hid (Below w.heap.size w w2) := Lib.hid (by exact (by repeat (first | with_reducible exact Below.refl _ _ | with_reducible assumption | with_reducible refine Below.drew ?_ | with_reducible refine Below.drewN ?_ _ | with_reducible refine Below.alloc2 ?_ _ | with_reducible refine Below.alloc ?_ (by first | omega | (simp <;> omega)) _ | with_reducible refine Below.setCell ?_ (by first | omega | (simp <;> omega)) _ | with_reducible refine Below.step2 (by with_reducible assumption) ?_ | with_reducible refine Below.step (by with_reducible assumption) ?_ (by first | omega | (simp <;> omega))))); clear hb2)
  refine wp_loop_rounds 1 ?_
  rw [rounds_succ]
  go_wp2
  go_ret2
  have hb0 := HB2.out
  exact ⟨(by repeat (first | with_reducible exact Below.refl _ _ | with_reducible assumption | with_reducible refine Below.drew ?_ | with_reducible refine Below.drewN ?_ _ | with_reducible refine Below.alloc2 ?_ _ | with_reducible refine Below.alloc ?_ (by first | omega | (simp <;> omega)) _ | with_reducible refine Below.setCell ?_ (by first | omega | (simp <;> omega)) _ | with_reducible refine Below.step2 (by with_reducible assumption) ?_ | with_reducible refine Below.step (by with_reducible assumption) ?_ (by first | omega | (simp <;> omega)))), rfl⟩

/-- The multiples that cannot be closed. -/
def gapsTo (T : List Int) (u : Int) : Nat → List Int
  | 0 => []
  | k + 1 => gapsTo T u k ++ (if T.getD k 0 = -1 then [(k : Int) * u] else [])
theorem gapsTo_len (T : List Int) (u : Int) : ∀ k, (gapsTo T u k).length ≤ k
  | 0 => Nat.le_refl _
  | k + 1 => by
    have := gapsTo_len T u k
    simp only [gapsTo, List.length_append]
    split <;> simp <;> omega

set_option maxHeartbeats 4000000 in
set_option maxRecDepth 100000 in
theorem gaps_ok (A A2 : Option Addr) (n c n2 c2 : Nat) (s : Sys) (w : World) (h : SysAt w w.heap.size A n c A2 n2 c2 s) (x : Int) (he : s.bothErr x = 0) :
    Calls Try.prog 28 #[.agg #[.slice A n c, .slice A2 n2 c2, .int .i64 s.width, .int .i64 s.gap, .int .i64 s.lift], .int .i64 x] w fun e w' => Below w.heap.size w w' ∧
      ∃ GA gn gc, e = .returned (.tuple #[.slice GA gn gc, .int .i64 0]) ∧ Ints w' w'.heap.size GA gn gc (gapsTo (tab s.parts (x.tdiv s.unit).toNat) s.unit ((x.tdiv s.unit).toNat + 1)) := by
  have hcapA := h.a.nums.cap; have hmaxA := h.a.nums.max; have hcapB := h.b.nums.cap; have hmaxB := h.b.nums.max; have HLA := Lib.hid h.a.nums.len; have HLB := Lib.hid h.b.nums.len; have H : Hid (∀ w', Below w.heap.size w w' → SysAt w' w.heap.size A n c A2 n2 c2 s) := fun w' hb => h.below hb (Nat.le_refl _) (Nat.le_refl _); have HS : Hid (∀ w', Below w.heap.size w w' → SysAt w' w'.heap.size A n c A2 n2 c2 s) := fun w' hb => h.below hb (Nat.le_refl _) hb.size; clear h
  have HT := Lib.hid (fun (W : World) (hW : Below w.heap.size w W) => tableUpTo_ok A A2 n c n2 c2 s W (HS.out W hW) x he)
  obtain ⟨hok, hx0, hx1⟩ := bothErr_facts he
  have hu := hok.unit_bd
  obtain ⟨hu1, hu2⟩ := hu
  have hN4 : (x.tdiv s.unit).toNat ≤ 4000 := by
    have : x.tdiv s.unit ≤ 4000 := by
      rw [Int.tdiv_eq_ediv_of_nonneg hx0]
      exact Int.ediv_le_of_le_mul (by omega) (by omega)
    omega
  have HLT := Lib.hid (tab_length s.parts (x.tdiv s.unit).toNat)
  obtain ⟨i0, hi0, hz0, hz1, hz2⟩ := info_parts info_int
  have HI0 := Lib.hid hi0
  have HZ0 := Lib.hid hz0
  have HZ1 := Lib.hid hz1
  have HZ2 := Lib.hid hz2
  clear he hok hx0 hx1 hi0 hz0 hz1 hz2
  generalize tab s.parts (x.tdiv s.unit).toNat = T at *
  obtain ⟨N, hN⟩ : ∃ N, (x.tdiv s.unit).toNat + 1 = N := ⟨_, rfl⟩
  have hN1 : N ≤ 4001 := by omega
  rw [hN] at HT HLT ⊢
  generalize s.unit = u at *
  clear hN hN4
  go_enter Try.func28, Try.ntmps28
  go_wp2_with (go_at_call 43; refine (HT.out _ (by exact (by repeat (first | with_reducible exact Below.refl _ _ | with_reducible assumption | with_reducible refine Below.drew ?_ | with_reducible refine Below.drewN ?_ _ | with_reducible refine Below.alloc2 ?_ _ | with_reducible refine Below.alloc ?_ (by first | omega | (simp <;> omega)) _ | with_reducible refine Below.setCell ?_ (by first | omega | (simp <;> omega)) _ | with_reducible refine Below.step2 (by with_reducible assumption) ?_ | with_reducible refine Below.step (by with_reducible assumption) ?_ (by first | omega | (simp <;> omega)))))).mono ?_; rintro e w2 ⟨hb2, PA, pn, pc, TA, tc, rfl, hp, ht, hf⟩; have HB2 : Hid (Below w.heap.size w w2) := Lib.hid (by exact (by repeat (first | with_reducible exact Below.refl _ _ | with_reducible assumption | with_reducible refine Below.drew ?_ | with_reducible refine Below.drewN ?_ _ | with_reducible refine Below.alloc2 ?_ _ | with_reducible refine Below.alloc ?_ (by first | omega | (simp <;> omega)) _ | with_reducible refine Below.setCell ?_ (by first | omega | (simp <;> omega)) _ | with_reducible refine Below.step2 (by with_reducible assumption) ?_ | with_reducible refine Below.step (by with_reducible assumption) ?_ (by first | omega | (simp <;> omega))))); have HTT := Lib.hid ht; clear hb2 hp ht hf)
  have htc := HTT.out.nums.cap
  have htm := HTT.out.nums.max
  have oz2 := HB2.out.size
  go_loopw [8, 20] (fun v i wr => ∃ k : Nat, k ≤ N ∧ i = .int .i64 k ∧ wr.ownsRow (w2.heap.size + 1) 3 1 v (gapsTo T u k).length (i64s (gapsTo T u k)) ∧ Bk wr w2.heap.size 68 #[.int .i64 u, .slice PA pn pc, .slice TA N tc] ∧ Below w2.heap.size w2 wr) (fun _ i _ => N - (intOf i).toNat)
  case atStart => exact ⟨0, Nat.zero_le _, rfl, World.ownsRow_nil _ _ _ _, by exact (by repeat (first | with_reducible assumption | with_reducible exact Bk.at_ (by first | (simp; done) | omega) | with_reducible refine Bk.alloc ?_ _ | with_reducible refine Bk.drew ?_ | with_reducible refine Bk.drewN ?_ _ | with_reducible refine Bk.step (by with_reducible assumption) ?_ (by first | omega | (simp <;> omega)))), (by repeat (first | with_reducible exact Below.refl _ _ | with_reducible assumption | with_reducible refine Below.drew ?_ | with_reducible refine Below.drewN ?_ _ | with_reducible refine Below.alloc2 ?_ _ | with_reducible refine Below.alloc ?_ (by first | omega | (simp <;> omega)) _ | with_reducible refine Below.setCell ?_ (by first | omega | (simp <;> omega)) _ | with_reducible refine Below.step2 (by with_reducible assumption) ?_ | with_reducible refine Below.step (by with_reducible assumption) ?_ (by first | omega | (simp <;> omega))))⟩
  case round =>
    obtain ⟨k, hk, rfl, hown, hbk, hb⟩ := hrel
    have HOWN := Lib.hid hown
    have HBK := Lib.hid hbk
    have HB := Lib.hid hb
    obtain ⟨⟨c0, c1, c2'⟩, -⟩ := hbk.three
    have og := hbk.lt
    by_cases hlt : k < N
    · obtain ⟨b, o, y, rfl, hbb, hy, d0⟩ := (HTT.out.below hb (Nat.le_refl _) (Nat.le_refl _)).nums.at_ hlt
      have HY := Lib.hid (getD_of hy)
      have ob : b < wr.heap.size := by omega
      have hgl := gapsTo_len T u k
      have hm1 : (0 : Int) ≤ (k : Int) * u := Int.mul_nonneg (by omega) (by omega)
      have hm2 : (k : Int) * u ≤ 50000000 := by
        have h1 := Int.mul_le_mul_of_nonneg_right (show (k : Int) ≤ 4001 by omega) (show 0 ≤ u by omega)
        have h2 := Int.mul_le_mul_of_nonneg_left hu2 (show (0 : Int) ≤ 4001 by omega)
        omega
      have hmw : IntKind.i64.wrap ((k : Int) * u) = (k : Int) * u := IntWalk.i64_in _ (by omega)
      clear hy hown hbk hb hbb
      by_cases hy1 : y = -1
      · have HG : Hid (gapsTo T u (k + 1) = gapsTo T u k ++ [(k : Int) * u]) := Lib.hid (by simp only [gapsTo]; rw [HY.out, if_pos hy1])
        generalize hku : (k : Int) * u = ku at *
        have hyb : (y == -1) = true := by simpa using hy1
        clear hy1
        go_wp2_with (at_builtin; refine wpList_append_own_at _ rfl _ _ _ rfl (w2.heap.size + 1) 3 i0 _ 1 8 Try.underlying22 HI0.out HZ0.out HZ1.out HZ2.out rfl (by omega) _ _ _ rfl (HOWN.out.alloc _) ⟨wr.heap.size, 0, none⟩ 1 1 [.int .i64 ku] rfl rfl (World.news_of_block (cs := #[.int .i64 ku]) (t := 3) (fr := (0, 0)) (heap_alloc_new wr _)) (i64s_one [ku]) (by unfold maxLen; omega) (by omega) (by simp; omega) ?_; intro v1 w1 hown1 hg1 _ _; have HO1 := Lib.hid hown1; have HG1 := Lib.hid hg1; clear hown1 hg1)
        go_roundw
        case rel =>
          have hb := HB.out
          refine ⟨k + 1, by omega, by go_num, ?_, (HG1.out.block _ (by simp; omega) (fun e => by have := (HOWN.out.lt _ e.symm).1; omega)).trans (HBK.out.alloc _), (Below.alloc hb hb.size _).grown HG1.out (by simp; omega) (fun q hq => by have := (HOWN.out.lt _ hq).1; omega)⟩
          rw [HG.out, i64s_append, List.length_append]
          exact HO1.out
        case measure => simp [intOf]; omega
      · have HG : Hid (gapsTo T u (k + 1) = gapsTo T u k) := Lib.hid (by simp only [gapsTo]; rw [HY.out, if_neg hy1]; simp)
        have hyb : (y == -1) = false := by simpa using hy1
        clear hy1
        go_wp2
        go_roundw
        case rel => exact ⟨k + 1, by omega, by go_num, by rw [HG.out]; exact HOWN.out, HBK.out, HB.out⟩
        case measure => simp [intOf]; omega
    · have e : N = k := by omega
      subst e
      obtain ⟨GA, gc, rfl, hi⟩ := Ints.of_own hown
      have HIG := Lib.hid hi
      clear hown hbk hb hi
      go_wp2
      go_ret2
      have hb0 := HB2.out
      have hb := HB.out
      exact ⟨(by repeat (first | with_reducible exact Below.refl _ _ | with_reducible assumption | with_reducible refine Below.drew ?_ | with_reducible refine Below.drewN ?_ _ | with_reducible refine Below.alloc2 ?_ _ | with_reducible refine Below.alloc ?_ (by first | omega | (simp <;> omega)) _ | with_reducible refine Below.setCell ?_ (by first | omega | (simp <;> omega)) _ | with_reducible refine Below.step2 (by with_reducible assumption) ?_ | with_reducible refine Below.step (by with_reducible assumption) ?_ (by first | omega | (simp <;> omega)))), _, _, _, rfl, HIG.out⟩

end Go.Proofs.Ytkcbfkflkepfeaa
