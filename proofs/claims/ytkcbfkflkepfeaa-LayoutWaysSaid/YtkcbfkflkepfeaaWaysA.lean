/- Walks: Ways of the program. -/
import Derived.Test.YtkcbfkflkepfeaaWays
namespace Go.Proofs.Ytkcbfkflkepfeaa
open Go.RowKit

theorem ret2 {a b c d : Int} (h : (a, b) = (c, d)) : Ending.returned (.tuple #[.int .i64 a, .int .i64 b]) = .returned (.tuple #[.int .i64 c, .int .i64 d]) := by cases h; rfl

set_option maxRecDepth 100000 in
set_option maxHeartbeats 8000000 in
theorem ways_any (A A2 : Option Addr) (n c n2 c2 : Nat) (s : Sys) (w : World) (h : SysAt w w.heap.size A n c A2 n2 c2 s) (x : Int) :
    Calls Try.prog 32 #[.agg #[.slice A n c, .slice A2 n2 c2, .int .i64 s.width, .int .i64 s.gap, .int .i64 s.lift], .int .i64 x] w fun e w' => Below w.heap.size w w' ∧ e = .returned (.tuple #[.int .i64 (s.waysR x).1, .int .i64 (s.waysR x).2]) := by
  have hcapA := h.a.nums.cap; have hmaxA := h.a.nums.max; have hcapB := h.b.nums.cap; have hmaxB := h.b.nums.max; have HLA := Lib.hid h.a.nums.len; have HLB := Lib.hid h.b.nums.len; have H : Hid (∀ w', Below w.heap.size w w' → SysAt w' w.heap.size A n c A2 n2 c2 s) := fun w' hb => h.below hb (Nat.le_refl _) (Nat.le_refl _); have HS : Hid (∀ w', Below w.heap.size w w' → SysAt w' w'.heap.size A n c A2 n2 c2 s) := fun w' hb => h.below hb (Nat.le_refl _) hb.size; clear h
  by_cases he : s.bothErr x = 0
  · have HE := Lib.hid he
    have hse : s.err = 0 := by
      by_cases h : s.err = 0
      · exact h
      · rw [Sys.bothErr_bad rfl h] at he
        exact absurd he h
    have HOK := Lib.hid (Sys.ok_of hse)
    rw [Sys.bothErr_ok hse] at he
    have hx0 : 0 ≤ x := by unfold Sys.lenErr at he; split at he <;> first | (cases he; done) | omega
    have hx1 : x ≤ 4000 * s.unit := by
      unfold Sys.lenErr at he
      rw [if_neg (by omega)] at he
      split at he
      · cases he
      · omega
    have hu := HOK.out.unit_bd
    obtain ⟨hu1, hu2⟩ := hu
    have hu0 : ¬ s.unit = 0 := by omega
    have hwr : s.waysR x = s.ways x := by unfold Sys.waysR; rw [if_neg (by simp [HE.out])]
    rw [hwr]
    clear hwr he hse
    have hrw : IntKind.i64.wrap (x.tmod s.unit) = x.tmod s.unit := IntWalk.i64_in _ (by have := Int.tmod_lt_of_pos x (show 0 < s.unit by omega); have := Int.tmod_nonneg s.unit hx0; omega)
    by_cases hr : x.tmod s.unit = 0
    · have hN0 : 0 ≤ x.tdiv s.unit := Int.tdiv_nonneg hx0 (by omega)
      have hN1 : x.tdiv s.unit ≤ 4000 := by
        rw [Int.tdiv_eq_ediv_of_nonneg hx0]
        exact Int.ediv_le_of_le_mul (by omega) (by omega)
      obtain ⟨N, hN⟩ : ∃ N : Nat, x.tdiv s.unit = (N : Int) := ⟨(x.tdiv s.unit).toNat, by omega⟩
      have hN4 : N ≤ 4000 := by omega
      have hquo : IntKind.i64.wrap (x.tdiv s.unit) = (N : Int) := by rw [hN]; exact IntWalk.i64_in _ (by omega)
      obtain ⟨M, hM⟩ : ∃ M : Nat, M = N + 1 := ⟨_, rfl⟩
      have hq2 : IntKind.i64.wrap ((N : Int) + 1) = (M : Int) := by rw [IntWalk.i64_in _ (by omega)]; omega
      have hws : s.ways x = if waysN s.parts N ≤ 1000000 then (waysN s.parts N, 0) else (0, 8) := by unfold Sys.ways; rw [if_neg (by simp [hr]), hN, Int.toNat_natCast]
      rw [hws]
      obtain ⟨r0, hr0⟩ : ∃ r0 : Int × Int, (if waysN s.parts N ≤ 1000000 then (waysN s.parts N, 0) else (0, 8)) = r0 := ⟨_, rfl⟩
      rw [hr0]
      have HR0 : Hid (r0 = if waysN s.parts N ≤ 1000000 then (waysN s.parts N, 0) else (0, 8)) := Lib.hid hr0.symm
      clear hr0
      have hrb : (x.tmod s.unit == 0) = true := by simpa using hr
      have hrn : (x.tmod s.unit != 0) = false := by simpa using hr
      have HF := Lib.hid HOK.out.fine
      have hpl := HOK.out.parts_len
      obtain ⟨m, hm⟩ : ∃ m : Nat, m = n + n2 := ⟨_, rfl⟩
      have HM := Lib.hid hm
      have HPL : Hid (s.parts.length = m) := Lib.hid (by unfold Sys.parts; rw [List.length_append, List.length_map, List.length_map, HLA.out, HLB.out, hm])
      have hm1 : 1 ≤ m := by have := HPL.out; omega
      have hm2 : m ≤ 16 := by have := HPL.out; omega
      have HCL : Hid (∀ j, (waysOf (s.parts.take j) (ways0 N)).length = M) := Lib.hid (fun j => by rw [waysOf_length]; simp [ways0, hM])
      have HCC : Hid (∀ j, Cnt (waysOf (s.parts.take j) (ways0 N))) := Lib.hid (fun j => Cnt.waysOf _ (Cnt.zero N))
      obtain ⟨i0, hi, hz0, hz1, hz2⟩ := info_parts info_int
      have hmk := make_any (P := Try.prog) 22 3 i0 _ Try.underlying22 hi hz0 hz1 rfl (by omega) M (by rw [hz2]; omega) (by omega)
      have hzc : ∀ W : World, (W.alloc (.cells (zs M).toArray 3)).cell? ⟨W.heap.size, 0, none⟩ = some (.int .i64 0) := fun W => by
        have := (Bk.alloc_ W 3 (zs M).toArray).cell 0
        rw [this]
        simp [zs, hM]
      have hzf : ∀ W : World, (W.alloc (.cells (zs M).toArray 3)).frozen? ⟨W.heap.size, 0, none⟩ = false := fun W => (Bk.alloc_ W 3 (zs M).toArray).frozen 0
      have HZ3 : Hid (∀ W : World, Bk (W.alloc (.cells ((zs M).set 0 (.int .i64 1)).toArray 3)) W.heap.size 3 (i64s (waysOf (s.parts.take 0) (ways0 N))).toArray) := Lib.hid (fun W => by
        have e : (zs M).set 0 (.int .i64 1) = i64s (waysOf (s.parts.take 0) (ways0 N)) := by
          rw [hM, zs_i64s, List.take_zero]
          simp [waysOf, ways0, i64s, List.replicate_succ]
        rw [e]
        exact Bk.alloc_ W _ _)
      have HMN := Lib.hid hM
      have hM1 : 1 ≤ M := by omega
      have hM4 : M ≤ 4001 := by omega
      clear hN0 hN1 hws hm hpl hi hz0 hz1 hz2 hN hM hx1 hx0
      go_enter Try.func32, Try.ntmps32
      go_wp2_with (first
        | (go_at_call 48; refine (sysLen_any _ _ _ _ _ _ _ _ (HS.out _ (by exact (by repeat (first | with_reducible exact Below.refl _ _ | with_reducible assumption | with_reducible refine Below.drew ?_ | with_reducible refine Below.drewN ?_ _ | with_reducible refine Below.alloc2 ?_ _ | with_reducible refine Below.alloc ?_ (by first | omega | (simp <;> omega)) _ | with_reducible refine Below.setCell ?_ (by first | omega | (simp <;> omega)) _ | with_reducible refine Below.step2 (by with_reducible assumption) ?_ | with_reducible refine Below.step (by with_reducible assumption) ?_ (by first | omega | (simp <;> omega)))))) _).mono ?_; rintro e w1 ⟨hb1, rfl⟩; rw [HE.out]; have HB1 : Hid (Below w.heap.size w w1) := Lib.hid (by exact (by repeat (first | with_reducible exact Below.refl _ _ | with_reducible assumption | with_reducible refine Below.drew ?_ | with_reducible refine Below.drewN ?_ _ | with_reducible refine Below.alloc2 ?_ _ | with_reducible refine Below.alloc ?_ (by first | omega | (simp <;> omega)) _ | with_reducible refine Below.setCell ?_ (by first | omega | (simp <;> omega)) _ | with_reducible refine Below.step2 (by with_reducible assumption) ?_ | with_reducible refine Below.step (by with_reducible assumption) ?_ (by first | omega | (simp <;> omega))))); have HK1 : Hid (Bk w1 w.heap.size 24 #[.slice A n c, .slice A2 n2 c2, .int .i64 s.width, .int .i64 s.gap, .int .i64 s.lift]) := Lib.hid (by exact (by repeat (first | with_reducible assumption | with_reducible exact Bk.at_ (by first | (simp; done) | omega) | with_reducible refine Bk.alloc ?_ _ | with_reducible refine Bk.drew ?_ | with_reducible refine Bk.drewN ?_ _ | with_reducible refine Bk.step (by with_reducible assumption) ?_ (by first | omega | (simp <;> omega))))); obtain ⟨⟨a0, a1, a2, a3, a4⟩, -⟩ := HK1.out.five; have oz1 := HB1.out.size; have og1 := HK1.out.lt; clear hb1)
        | (go_at_call 49; refine (unit_any _ _ _ _ _ _ _ _ (HS.out _ HB1.out) HOK.out).mono ?_; rintro e w2 ⟨hb2, rfl⟩; have HB2 : Hid (Below w.heap.size w w2) := Lib.hid (by have hb0 := HB1.out; exact (by repeat (first | with_reducible exact Below.refl _ _ | with_reducible assumption | with_reducible refine Below.drew ?_ | with_reducible refine Below.drewN ?_ _ | with_reducible refine Below.alloc2 ?_ _ | with_reducible refine Below.alloc ?_ (by first | omega | (simp <;> omega)) _ | with_reducible refine Below.setCell ?_ (by first | omega | (simp <;> omega)) _ | with_reducible refine Below.step2 (by with_reducible assumption) ?_ | with_reducible refine Below.step (by with_reducible assumption) ?_ (by first | omega | (simp <;> omega))))); have HK2 : Hid (Bk w2 w.heap.size 24 #[.slice A n c, .slice A2 n2 c2, .int .i64 s.width, .int .i64 s.gap, .int .i64 s.lift]) := Lib.hid (HK1.out.below hb2 og1); obtain ⟨⟨b0, b1, b2, b3, b4⟩, -⟩ := HK2.out.five; have og2 := HK2.out.lt; have on2 : ¬ w.heap.size = w2.heap.size := (by omega); have hld1 : ∀ (o : Obj) (i : Nat), (w2.alloc o).cell? ⟨w.heap.size, i, none⟩ = w2.cell? ⟨w.heap.size, i, none⟩ := (fun o i => World.cell?_alloc_lt w2 o _ og2); have hld2 : ∀ (o : Obj) (u : Value) (i : Nat), ((w2.alloc o).setCell ⟨w2.heap.size, 0, none⟩ u).cell? ⟨w.heap.size, i, none⟩ = w2.cell? ⟨w.heap.size, i, none⟩ := (fun o u i => (World.cell?_setCell_other _ _ _ u (fun e => (by have := congrArg Addr.block e; simp at this; omega))).trans (hld1 o i)); clear hb2)
        | (go_at_call 50; refine (partsOf_any _ _ _ _ _ _ _ _ (HS.out _ (by have hb0 := HB2.out; exact (by repeat (first | with_reducible exact Below.refl _ _ | with_reducible assumption | with_reducible refine Below.drew ?_ | with_reducible refine Below.drewN ?_ _ | with_reducible refine Below.alloc2 ?_ _ | with_reducible refine Below.alloc ?_ (by first | omega | (simp <;> omega)) _ | with_reducible refine Below.setCell ?_ (by first | omega | (simp <;> omega)) _ | with_reducible refine Below.step2 (by with_reducible assumption) ?_ | with_reducible refine Below.step (by with_reducible assumption) ?_ (by first | omega | (simp <;> omega)))))) HOK.out).mono ?_; rintro e w3 ⟨hb3, v0, rfl, hown3⟩; rw [← HM.out] at hown3; obtain ⟨pb, pc, rfl, hpb1, hpb2, hpt⟩ := PartsAt.own hown3 hm1; have HB3 : Hid (Below w.heap.size w w3) := Lib.hid (by have hb0 := HB2.out; exact (by repeat (first | with_reducible exact Below.refl _ _ | with_reducible assumption | with_reducible refine Below.drew ?_ | with_reducible refine Below.drewN ?_ _ | with_reducible refine Below.alloc2 ?_ _ | with_reducible refine Below.alloc ?_ (by first | omega | (simp <;> omega)) _ | with_reducible refine Below.setCell ?_ (by first | omega | (simp <;> omega)) _ | with_reducible refine Below.step2 (by with_reducible assumption) ?_ | with_reducible refine Below.step (by with_reducible assumption) ?_ (by first | omega | (simp <;> omega))))); have HC3 := Lib.hid ((HZ3.out w2).below hb3 (by simp)); have HPT3 := Lib.hid hpt; (try simp at hpb1); clear hb3 hown3 hpt))
      have opg : pb ≠ w2.heap.size := by omega
      have ogw : w.heap.size ≤ w2.heap.size := HB2.out.size
      clear hmk hzc hzf
      go_loopw [35] (fun i wr => ∃ j : Nat, j ≤ m ∧ i = .int .i64 j ∧ Bk wr w2.heap.size 3 (i64s (waysOf (s.parts.take j) (ways0 N))).toArray ∧ PartsAt wr (pb + 1) (some ⟨pb, 0, none⟩) m pc s.parts ∧ pb < wr.heap.size ∧ Below w.heap.size w wr) (fun i _ => m - (intOf i).toNat)
      case atStart => exact ⟨0, Nat.zero_le _, rfl, HC3.out, HPT3.out, hpb2, HB3.out⟩
      case round =>
        obtain ⟨j, hj, rfl, hC, hpt, hpb, hb⟩ := hrel
        obtain ⟨wo, rfl⟩ : ∃ x, x = wr := ⟨_, rfl⟩
        have HC := Lib.hid hC
        have HPT := Lib.hid hpt
        have HB := Lib.hid hb
        have ogo := hC.lt
        have owo := hb.size
        have hpcap := hpt.cap
        have hpmax := hpt.max
        have HL := Lib.hid (HCL.out j)
        have HCN := Lib.hid (HCC.out j)
        by_cases hjm : j < m
        · obtain ⟨b', o', q, hee, hbb, hq, d0, d1, d2, d3⟩ := hpt.at_ hjm
          obtain ⟨rfl, rfl⟩ : pb = b' ∧ 0 = o' := by simpa using hee
          obtain ⟨⟨u1, u2⟩, -⟩ := HF.out q (List.mem_of_getElem? hq)
          have HWT := Lib.hid (ways_take (c := ways0 N) hq)
          obtain ⟨ql, qu, qc, qb⟩ := q
          simp only [Nat.zero_add] at u1 u2 d0 d1 d2 d3
          obtain ⟨u, rfl⟩ : ∃ u : Nat, qu = (u : Int) := ⟨qu.toNat, by omega⟩
          clear hC hpt hb hee hbb hq
          generalize waysOf (s.parts.take j) (ways0 N) = c0 at *
          have HWP : Hid (wayPart c0 u = wayTo c0 u (M - u)) := Lib.hid (by unfold wayPart; rw [HL.out])
          have HGO : Hid (w2.heap.size < wo.heap.size) := Lib.hid ogo
          go_wp2
          go_loopw [11] (fun k wk => ∃ K i : Nat, k = .int .i64 K ∧ Hid (K = u + i) ∧ (K ≤ M ∨ i = 0) ∧ Bk wk w2.heap.size 3 (i64s (wayTo c0 u i)).toArray ∧ Bk wk wo.heap.size 80 #[.int .i64 ql, .int .i64 u, .int .i64 qc, .bool qb] ∧ Same pb wo wk ∧ wo.heap.size + 1 ≤ wk.heap.size ∧ Below w.heap.size w wk) (fun k _ => M - (intOf k).toNat)
          case atStart =>
            have hb0 := HB.out
            have hc0 := HC.out
            exact ⟨u, 0, rfl, Lib.hid (by omega), .inr rfl, (by show Bk _ _ _ (i64s c0).toArray; exact (by repeat (first | with_reducible assumption | with_reducible exact Bk.at_ (by first | (simp; done) | omega) | with_reducible refine Bk.alloc ?_ _ | with_reducible refine Bk.drew ?_ | with_reducible refine Bk.drewN ?_ _ | with_reducible refine Bk.step (by with_reducible assumption) ?_ (by first | omega | (simp <;> omega))))), (by exact (by repeat (first | with_reducible assumption | with_reducible exact Bk.at_ (by first | (simp; done) | omega) | with_reducible refine Bk.alloc ?_ _ | with_reducible refine Bk.drew ?_ | with_reducible refine Bk.drewN ?_ _ | with_reducible refine Bk.step (by with_reducible assumption) ?_ (by first | omega | (simp <;> omega))))), (Same.refl _ _).alloc _ hpb, by simp, (by repeat (first | with_reducible exact Below.refl _ _ | with_reducible assumption | with_reducible refine Below.drew ?_ | with_reducible refine Below.drewN ?_ _ | with_reducible refine Below.alloc2 ?_ _ | with_reducible refine Below.alloc ?_ (by first | omega | (simp <;> omega)) _ | with_reducible refine Below.setCell ?_ (by first | omega | (simp <;> omega)) _ | with_reducible refine Below.step2 (by with_reducible assumption) ?_ | with_reducible refine Below.step (by with_reducible assumption) ?_ (by first | omega | (simp <;> omega))))⟩
          case round =>
            obtain ⟨K, i, rfl, hK, hKM, hC, hP, hsm, hsz, hb⟩ := hrel
            have HC2 := Lib.hid hC
            have HP2 := Lib.hid hP
            have HSM := Lib.hid hsm
            have HB2' := Lib.hid hb
            have hlc : (wayTo c0 u i).length = M := by rw [wayTo_length]; exact HL.out
            have hKi := hK.out
            have ogr := hC.lt
            by_cases hlt : K < M
            · have hi : i < M := by omega
              obtain ⟨x0, g0⟩ := bk_at hC (k := K) (by rw [hlc]; exact hlt)
              obtain ⟨x1, g1⟩ := bk_at hC (k := i) (by rw [hlc]; exact hi)
              obtain ⟨p0, p1, p2, p3⟩ : wr.cell? ⟨wo.heap.size, 0, none⟩ = some (.int .i64 ql) ∧ wr.cell? ⟨wo.heap.size, 1, none⟩ = some (.int .i64 u) ∧ wr.cell? ⟨wo.heap.size, 2, none⟩ = some (.int .i64 qc) ∧ wr.cell? ⟨wo.heap.size, 3, none⟩ = some (.bool qb) := ⟨by simpa using hP.cell 0, by simpa using hP.cell 1, by simpa using hP.cell 2, by simpa using hP.cell 3⟩
              have hcn := HCN.out.to u i
              have hA := hcn.at_ K
              have hBd := hcn.at_ i
              have HST : Hid (wayTo c0 u (i + 1) = (wayTo c0 u i).set K (min ((wayTo c0 u i).getD K 0 + (wayTo c0 u i).getD i 0) 1000001)) := Lib.hid (by simp only [wayTo, wayStep]; rw [← hKi, show K - u = i by omega])
              obtain ⟨hA1, hA2⟩ := hA
              obtain ⟨hB1, hB2⟩ := hBd
              have hsub : IntKind.i64.wrap ((K : Int) - (u : Int)) = (i : Int) := by rw [IntWalk.i64_in _ (by omega)]; omega
              have on3 : ¬ wo.heap.size = w2.heap.size := by have := HGO.out; omega
              clear hC hP hsm hb hlc hKi hKM hcn
              generalize (wayTo c0 u i).getD K 0 = a at *
              generalize (wayTo c0 u i).getD i 0 = b at *
              have hsum : IntKind.i64.wrap (a + b) = a + b := IntWalk.i64_in _ (by omega)
              go_wp2
              go_region
              go_wp2
              go_roundw
              case rel =>
                have hb0 := HB2'.out
                have hc0 := bk_set HC2.out K (min (a + b) 1000001)
                rw [← HST.out] at hc0
                exact ⟨K + 1, i + 1, by go_num, Lib.hid (by have := hK.out; omega), .inl (by omega), hc0, HP2.out.other (by show wo.heap.size ≠ w2.heap.size; exact on3) _, HSM.out.set _ (by show w2.heap.size ≠ pb; omega), by simpa using hsz, (by repeat (first | with_reducible exact Below.refl _ _ | with_reducible assumption | with_reducible refine Below.drew ?_ | with_reducible refine Below.drewN ?_ _ | with_reducible refine Below.alloc2 ?_ _ | with_reducible refine Below.alloc ?_ (by first | omega | (simp <;> omega)) _ | with_reducible refine Below.setCell ?_ (by first | omega | (simp <;> omega)) _ | with_reducible refine Below.step2 (by with_reducible assumption) ?_ | with_reducible refine Below.step (by with_reducible assumption) ?_ (by first | omega | (simp <;> omega))))⟩
              case measure => simp [intOf]; omega
            · have hiM : M - u = i := by rcases hKM with h | h <;> omega
              clear hC hP hsm hb
              go_wp2
              go_roundw
              case rel =>
                have hc0 := HC2.out
                rw [← hiM, ← HWP.out] at hc0
                have hwt := HWT.out
                rw [show (Part.mk ql (u : Int) qc qb).units.toNat = u from Int.toNat_natCast u] at hwt
                exact ⟨j + 1, by omega, by go_num, by rw [hwt]; exact hc0, HPT.out.keep HSM.out, by omega, HB2'.out⟩
              case measure => simp [intOf]; omega
        · have e : m = j := by omega
          subst e
          have hta : s.parts.take m = s.parts := List.take_of_length_le (by rw [HPL.out]; exact Nat.le_refl _)
          rw [hta] at hC HL HCN
          obtain ⟨x0, g0⟩ := bk_at hC (k := N) (by rw [HL.out, HMN.out]; omega)
          have hA := HCN.out.at_ N
          obtain ⟨hA1, hA2⟩ := hA
          have hsub : IntKind.i64.wrap ((M : Int) - 1) = (N : Int) := by rw [IntWalk.i64_in _ (by omega)]; have := HMN.out; omega
          have hNM : N < M := by have := HMN.out; omega
          have hwn : waysN s.parts N = (waysOf s.parts (ways0 N)).getD N 0 := rfl
          rw [← hwn] at x0 hA1 hA2
          generalize waysN s.parts N = a at *
          clear hC hpt hb hwn hta
          by_cases ha : a ≤ 1000000
          · rw [if_pos ha] at HR0
            go_wp2
            go_ret2
            exact ⟨HB.out, by rw [HR0.out]; rfl⟩
          · rw [if_neg ha] at HR0
            go_wp2
            go_ret2
            exact ⟨HB.out, by rw [HR0.out]; rfl⟩
    · have hw0 : s.ways x = (0, 0) := by unfold Sys.ways; rw [if_pos hr]
      rw [hw0]
      have hrb : (x.tmod s.unit == 0) = false := by simpa using hr
      have hrn : (x.tmod s.unit != 0) = true := by simpa using hr
      clear hw0 hx0
      go_enter Try.func32, Try.ntmps32
      go_wp2_with (first
        | (go_at_call 48; refine (sysLen_any _ _ _ _ _ _ _ _ (HS.out _ (by exact (by repeat (first | with_reducible exact Below.refl _ _ | with_reducible assumption | with_reducible refine Below.drew ?_ | with_reducible refine Below.drewN ?_ _ | with_reducible refine Below.alloc2 ?_ _ | with_reducible refine Below.alloc ?_ (by first | omega | (simp <;> omega)) _ | with_reducible refine Below.setCell ?_ (by first | omega | (simp <;> omega)) _ | with_reducible refine Below.step2 (by with_reducible assumption) ?_ | with_reducible refine Below.step (by with_reducible assumption) ?_ (by first | omega | (simp <;> omega)))))) _).mono ?_; rintro e w1 ⟨hb1, rfl⟩; rw [HE.out]; have HB1 : Hid (Below w.heap.size w w1) := Lib.hid (by exact (by repeat (first | with_reducible exact Below.refl _ _ | with_reducible assumption | with_reducible refine Below.drew ?_ | with_reducible refine Below.drewN ?_ _ | with_reducible refine Below.alloc2 ?_ _ | with_reducible refine Below.alloc ?_ (by first | omega | (simp <;> omega)) _ | with_reducible refine Below.setCell ?_ (by first | omega | (simp <;> omega)) _ | with_reducible refine Below.step2 (by with_reducible assumption) ?_ | with_reducible refine Below.step (by with_reducible assumption) ?_ (by first | omega | (simp <;> omega))))); have HK1 : Hid (Bk w1 w.heap.size 24 #[.slice A n c, .slice A2 n2 c2, .int .i64 s.width, .int .i64 s.gap, .int .i64 s.lift]) := Lib.hid (by exact (by repeat (first | with_reducible assumption | with_reducible exact Bk.at_ (by first | (simp; done) | omega) | with_reducible refine Bk.alloc ?_ _ | with_reducible refine Bk.drew ?_ | with_reducible refine Bk.drewN ?_ _ | with_reducible refine Bk.step (by with_reducible assumption) ?_ (by first | omega | (simp <;> omega))))); obtain ⟨⟨a0, a1, a2, a3, a4⟩, -⟩ := HK1.out.five; have oz1 := HB1.out.size; clear hb1)
        | (go_at_call 49; refine (unit_any _ _ _ _ _ _ _ _ (HS.out _ HB1.out) HOK.out).mono ?_; rintro e w2 ⟨hb2, rfl⟩; have HB2 : Hid (Below w.heap.size w w2) := Lib.hid (by have hb0 := HB1.out; exact (by repeat (first | with_reducible exact Below.refl _ _ | with_reducible assumption | with_reducible refine Below.drew ?_ | with_reducible refine Below.drewN ?_ _ | with_reducible refine Below.alloc2 ?_ _ | with_reducible refine Below.alloc ?_ (by first | omega | (simp <;> omega)) _ | with_reducible refine Below.setCell ?_ (by first | omega | (simp <;> omega)) _ | with_reducible refine Below.step2 (by with_reducible assumption) ?_ | with_reducible refine Below.step (by with_reducible assumption) ?_ (by first | omega | (simp <;> omega))))); clear hb2))
      go_ret2
      exact ⟨HB2.out, rfl⟩
  · generalize hz : s.bothErr x = z at he
    have hwr : s.waysR x = (0, z) := by unfold Sys.waysR; rw [hz, if_pos he]
    rw [hwr]
    have HZ := Lib.hid hz
    have hzb : (z == 0) = false := by simpa using he
    clear hz hwr
    go_enter Try.func32, Try.ntmps32
    go_wp2_with (go_at_call 48; refine (sysLen_any _ _ _ _ _ _ _ _ (HS.out _ (by exact (by repeat (first | with_reducible exact Below.refl _ _ | with_reducible assumption | with_reducible refine Below.drew ?_ | with_reducible refine Below.drewN ?_ _ | with_reducible refine Below.alloc2 ?_ _ | with_reducible refine Below.alloc ?_ (by first | omega | (simp <;> omega)) _ | with_reducible refine Below.setCell ?_ (by first | omega | (simp <;> omega)) _ | with_reducible refine Below.step2 (by with_reducible assumption) ?_ | with_reducible refine Below.step (by with_reducible assumption) ?_ (by first | omega | (simp <;> omega)))))) _).mono ?_; rintro e w1 ⟨hb1, rfl⟩; rw [HZ.out]; have HB1 : Hid (Below w.heap.size w w1) := Lib.hid (by exact (by repeat (first | with_reducible exact Below.refl _ _ | with_reducible assumption | with_reducible refine Below.drew ?_ | with_reducible refine Below.drewN ?_ _ | with_reducible refine Below.alloc2 ?_ _ | with_reducible refine Below.alloc ?_ (by first | omega | (simp <;> omega)) _ | with_reducible refine Below.setCell ?_ (by first | omega | (simp <;> omega)) _ | with_reducible refine Below.step2 (by with_reducible assumption) ?_ | with_reducible refine Below.step (by with_reducible assumption) ?_ (by first | omega | (simp <;> omega))))); clear hb1)
    go_ret2
    exact ⟨HB1.out, rfl⟩

end Go.Proofs.Ytkcbfkflkepfeaa
