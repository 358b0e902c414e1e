/- Walks of the reference: Ways. -/
import Derived.Test.YtkcbfkflkepfeaaWays
import Derived.Test.YtkcbfkflkepfeaaRefParts
namespace Go.Proofs.Ytkcbfkflkepfeaa
open Go.RowKit

theorem Sys.units_len (s : Sys) : ∀ p ∈ s.parts, p.units = p.len.tdiv s.unit := by
  intro p hp
  unfold Sys.parts at hp
  rcases List.mem_append.1 hp with hp | hp
  · obtain ⟨x, _, rfl⟩ := List.mem_map.1 hp
    rfl
  · obtain ⟨x, _, rfl⟩ := List.mem_map.1 hp
    rfl
theorem RParts.keep {w w' : World} {B rb ro n c : Nat} {l : List (Int × Int)} (h : RParts w B (some ⟨rb, ro, none⟩) n c l) (hk : ∀ o, w'.cell? ⟨rb, o, none⟩ = w.cell? ⟨rb, o, none⟩) : RParts w' (rb + 1) (some ⟨rb, ro, none⟩) n c l :=
  ⟨⟨h.sl.len, h.sl.cap, h.sl.max, fun hn => by
    obtain ⟨b, o, e, hb, hc⟩ := h.sl.cells hn
    obtain ⟨rfl, rfl⟩ : rb = b ∧ ro = o := by simpa using e
    exact ⟨rb, ro, rfl, by omega, fun k u hu => (hk _).trans (hc k u hu)⟩⟩⟩

set_option maxRecDepth 100000 in
set_option maxHeartbeats 8000000 in
theorem refWays_any (A A2 : Option Addr) (n c n2 c2 : Nat) (s : Sys) (w : World) (h : SysAt w w.heap.size A n c A2 n2 c2 s) (hs : s.Ok) (x : Int) (hx0 : 0 ≤ x) (hx1 : x ≤ 4000 * s.unit) :
    Calls Try.prog 33 #[.agg #[.slice A n c, .slice A2 n2 c2, .int .i64 s.width, .int .i64 s.gap, .int .i64 s.lift], .int .i64 x] w fun e w' => Below w.heap.size w w' ∧ e = .returned (.tuple #[.int .i64 (s.ways x).1, .int .i64 (s.ways x).2]) := by
  have hcapA := h.a.nums.cap; have hmaxA := h.a.nums.max; have hcapB := h.b.nums.cap; have hmaxB := h.b.nums.max; have HLA := Lib.hid h.a.nums.len; have HLB := Lib.hid h.b.nums.len; have H : Hid (∀ w', Below w.heap.size w w' → SysAt w' w.heap.size A n c A2 n2 c2 s) := fun w' hb => h.below hb (Nat.le_refl _) (Nat.le_refl _); have HS : Hid (∀ w', Below w.heap.size w w' → SysAt w' w'.heap.size A n c A2 n2 c2 s) := fun w' hb => h.below hb (Nat.le_refl _) hb.size; clear h
  have HOK := Lib.hid hs
  have hu := HOK.out.unit_bd
  obtain ⟨hu1, hu2⟩ := hu
  have hu0 : ¬ s.unit = 0 := by omega
  clear hs
  have hrw : IntKind.i64.wrap (x.tmod s.unit) = x.tmod s.unit := IntWalk.i64_in _ (by have := Int.tmod_lt_of_pos x (show 0 < s.unit by omega); have := Int.tmod_nonneg s.unit hx0; omega)
  by_cases hr : x.tmod s.unit = 0
  · have hN0 : 0 ≤ x.tdiv s.unit := Int.tdiv_nonneg hx0 (by omega)
    have hN1 : x.tdiv s.unit ≤ 4000 := by
      rw [Int.tdiv_eq_ediv_of_nonneg hx0]
      exact Int.ediv_le_of_le_mul (by omega) (by omega)
    obtain ⟨N, hN⟩ : ∃ N : Nat, x.tdiv s.unit = (N : Int) := ⟨(x.tdiv s.unit).toNat, by omega⟩
    have hN4 : N ≤ 4000 := by omega
    have hquo : IntKind.i64.wrap (x.tdiv s.unit) = (N : Int) := by rw [hN]; exact IntWalk.i64_in _ (by omega)
    obtain ⟨M, hM⟩ : ∃ M : Nat, M = N + 1 := ⟨_, rfl⟩
    have hq2 : IntKind.i64.wrap ((N : Int) + 1) = (M : Int) := by rw [IntWalk.i64_in _ (by omega)]; omega
    have hws : s.ways x = if waysN s.parts N ≤ 1000000 then (waysN s.parts N, 0) else (0, 8) := by unfold Sys.ways; rw [if_neg (by simp [hr]), hN, Int.toNat_natCast]
    rw [hws]
    obtain ⟨r0, hr0⟩ : ∃ r0 : Int × Int, (if waysN s.parts N ≤ 1000000 then (waysN s.parts N, 0) else (0, 8)) = r0 := ⟨_, rfl⟩
    rw [hr0]
    have HR0 : Hid (r0 = if waysN s.parts N ≤ 1000000 then (waysN s.parts N, 0) else (0, 8)) := Lib.hid hr0.symm
    clear hr0
    have hrb : (x.tmod s.unit == 0) = true := by simpa using hr
    have hrn : (x.tmod s.unit != 0) = false := by simpa using hr
    have HF := Lib.hid HOK.out.fine
    have hpl := HOK.out.parts_len
    obtain ⟨m, hm⟩ : ∃ m : Nat, m = n + n2 := ⟨_, rfl⟩
    have HM := Lib.hid hm
    have HPL : Hid (s.parts.length = m) := Lib.hid (by unfold Sys.parts; rw [List.length_append, List.length_map, List.length_map, HLA.out, HLB.out, hm])
    have hm1 : 1 ≤ m := by have := HPL.out; omega
    have hm2 : m ≤ 16 := by have := HPL.out; omega
    have HCL : Hid (∀ j, (waysOf (s.parts.take j) (ways0 N)).length = M) := Lib.hid (fun j => by rw [waysOf_length]; simp [ways0, hM])
    have HCC : Hid (∀ j, Cnt (waysOf (s.parts.take j) (ways0 N))) := Lib.hid (fun j => Cnt.waysOf _ (Cnt.zero N))
    obtain ⟨i0, hi, hz0, hz1, hz2⟩ := info_parts info_int
    have hmk := make_any (P := Try.prog) 22 3 i0 _ Try.underlying22 hi hz0 hz1 rfl (by omega) M (by rw [hz2]; omega) (by omega)
    have hzc : ∀ W : World, (W.alloc (.cells (zs M).toArray 3)).cell? ⟨W.heap.size, 0, none⟩ = some (.int .i64 0) := fun W => by
      have := (Bk.alloc_ W 3 (zs M).toArray).cell 0
      rw [this]
      simp [zs, hM]
    have hzf : ∀ W : World, (W.alloc (.cells (zs M).toArray 3)).frozen? ⟨W.heap.size, 0, none⟩ = false := fun W => (Bk.alloc_ W 3 (zs M).toArray).frozen 0
    have HZ3 : Hid (∀ W : World, Bk (W.alloc (.cells ((zs M).set 0 (.int .i64 1)).toArray 3)) W.heap.size 3 (i64s (waysOf (s.parts.take 0) (ways0 N))).toArray) := Lib.hid (fun W => by
      have e : (zs M).set 0 (.int .i64 1) = i64s (waysOf (s.parts.take 0) (ways0 N)) := by
        rw [hM, zs_i64s, List.take_zero]
        simp [waysOf, ways0, i64s, List.replicate_succ]
      rw [e]
      exact Bk.alloc_ W _ _)
    have HMN := Lib.hid hM
    have hM1 : 1 ≤ M := by omega
    have hM4 : M ≤ 4001 := by omega
    clear hN0 hN1 hws hm hpl hi hz0 hz1 hz2 hN hM hx1 hx0
    have HUL := Lib.hid s.units_len
    go_enter Try.func33, Try.ntmps33
    go_wp2_with (first
      | (go_at_call 46; refine (refUnit_any _ _ _ _ _ _ _ _ (HS.out _ (by exact (by repeat (first | with_reducible exact Below.refl _ _ | with_reducible assumption | with_reducible refine Below.drew ?_ | with_reducible refine Below.drewN ?_ _ | with_reducible refine Below.alloc2 ?_ _ | with_reducible refine Below.alloc ?_ (by first | omega | (simp <;> omega)) _ | with_reducible refine Below.setCell ?_ (by first | omega | (simp <;> omega)) _ | with_reducible refine Below.step2 (by with_reducible assumption) ?_ | with_reducible refine Below.step (by with_reducible assumption) ?_ (by first | omega | (simp <;> omega)))))) HOK.out).mono ?_; rintro e w2 ⟨hb2, rfl⟩; have HB2 : Hid (Below w.heap.size w w2) := Lib.hid (by exact (by repeat (first | with_reducible exact Below.refl _ _ | with_reducible assumption | with_reducible refine Below.drew ?_ | with_reducible refine Below.drewN ?_ _ | with_reducible refine Below.alloc2 ?_ _ | with_reducible refine Below.alloc ?_ (by first | omega | (simp <;> omega)) _ | with_reducible refine Below.setCell ?_ (by first | omega | (simp <;> omega)) _ | with_reducible refine Below.step2 (by with_reducible assumption) ?_ | with_reducible refine Below.step (by with_reducible assumption) ?_ (by first | omega | (simp <;> omega))))); have HK2 : Hid (Bk w2 w.heap.size 24 #[.slice A n c, .slice A2 n2 c2, .int .i64 s.width, .int .i64 s.gap, .int .i64 s.lift]) := Lib.hid (by exact (by repeat (first | with_reducible assumption | with_reducible exact Bk.at_ (by first | (simp; done) | omega) | with_reducible refine Bk.alloc ?_ _ | with_reducible refine Bk.drew ?_ | with_reducible refine Bk.drewN ?_ _ | with_reducible refine Bk.step (by with_reducible assumption) ?_ (by first | omega | (simp <;> omega))))); obtain ⟨⟨b0, b1, b2, b3, b4⟩, -⟩ := HK2.out.five; have og2 := HK2.out.lt; have on2 : ¬ w.heap.size = w2.heap.size := (by omega); have hld1 : ∀ (o : Obj) (i : Nat), (w2.alloc o).cell? ⟨w.heap.size, i, none⟩ = w2.cell? ⟨w.heap.size, i, none⟩ := (fun o i => World.cell?_alloc_lt w2 o _ og2); have hld2 : ∀ (o : Obj) (u : Value) (i : Nat), ((w2.alloc o).setCell ⟨w2.heap.size, 0, none⟩ u).cell? ⟨w.heap.size, i, none⟩ = w2.cell? ⟨w.heap.size, i, none⟩ := (fun o u i => (World.cell?_setCell_other _ _ _ u (fun e => (by have := congrArg Addr.block e; simp at this; omega))).trans (hld1 o i)); clear hb2)
      | (go_at_call 47; refine (refParts_any _ _ _ _ _ _ _ _ (HS.out _ (by have hb0 := HB2.out; exact (by repeat (first | with_reducible exact Below.refl _ _ | with_reducible assumption | with_reducible refine Below.drew ?_ | with_reducible refine Below.drewN ?_ _ | with_reducible refine Below.alloc2 ?_ _ | with_reducible refine Below.alloc ?_ (by first | omega | (simp <;> omega)) _ | with_reducible refine Below.setCell ?_ (by first | omega | (simp <;> omega)) _ | with_reducible refine Below.step2 (by with_reducible assumption) ?_ | with_reducible refine Below.step (by with_reducible assumption) ?_ (by first | omega | (simp <;> omega)))))) HOK.out).mono ?_; rintro e w3 ⟨hb3, RA, rc, rfl, hpt, hfr⟩; rw [← HM.out] at hpt; have hzz := hb3.size; (try simp at hzz); have HB3 : Hid (Below w.heap.size w w3) := Lib.hid (by have hb0 := HB2.out; exact (by repeat (first | with_reducible exact Below.refl _ _ | with_reducible assumption | with_reducible refine Below.drew ?_ | with_reducible refine Below.drewN ?_ _ | with_reducible refine Below.alloc2 ?_ _ | with_reducible refine Below.alloc ?_ (by first | omega | (simp <;> omega)) _ | with_reducible refine Below.setCell ?_ (by first | omega | (simp <;> omega)) _ | with_reducible refine Below.step2 (by with_reducible assumption) ?_ | with_reducible refine Below.step (by with_reducible assumption) ?_ (by first | omega | (simp <;> omega))))); have HC3 := Lib.hid ((HZ3.out w2).below hb3 (by simp)); have HPT3 := Lib.hid hpt; have HFR := Lib.hid hfr; clear hb3 hpt hfr))
    obtain ⟨rb, ro, -, rfl, hrb, -, -, -⟩ := HPT3.out.at_ (show 0 < m by omega)
    have opg : rb ≠ w2.heap.size := by
      have := HFR.out _ rfl
      simp at this
      omega
    have hpcap := HPT3.out.cap
    have hpmax := HPT3.out.max
    rw [← HM.out]
    clear hmk hzc hzf
    go_wp2_with fail
    go_loopw [10] (fun i wr => ∃ j : Nat, j ≤ m ∧ i = .int .i64 j ∧ Bk wr w2.heap.size 3 (i64s (waysOf (s.parts.take j) (ways0 N))).toArray ∧ RParts wr (rb + 1) (some ⟨rb, ro, none⟩) m rc (s.parts.map two) ∧ rb < wr.heap.size ∧ Below w.heap.size w wr) (fun i _ => m - (intOf i).toNat)
    case atStart => exact ⟨0, Nat.zero_le _, rfl, HC3.out, HPT3.out.keep (fun _ => rfl), hrb, HB3.out⟩
    case round =>
      obtain ⟨j, hj, rfl, hC, hpt, hpb, hb⟩ := hrel
      obtain ⟨wo, rfl⟩ : ∃ x, x = wr := ⟨_, rfl⟩
      have HC := Lib.hid hC
      have HPT := Lib.hid hpt
      have HB := Lib.hid hb
      have ogo := hC.lt
      have owo := hb.size
      have HL := Lib.hid (HCL.out j)
      have HCN := Lib.hid (HCC.out j)
      by_cases hjm : j < m
      · obtain ⟨b', o', q2, hee, hbb, hq2, d0, d1⟩ := hpt.at_ hjm
        obtain ⟨rfl, rfl⟩ : rb = b' ∧ ro = o' := by simpa using hee
        obtain ⟨q, hq, rfl⟩ : ∃ q, s.parts[j]? = some q ∧ two q = q2 := by rw [List.getElem?_map] at hq2; simpa using hq2
        obtain ⟨⟨u1, u2⟩, -⟩ := HF.out q (List.mem_of_getElem? hq)
        have hul := HUL.out q (List.mem_of_getElem? hq)
        have HWT := Lib.hid (ways_take (c := ways0 N) hq)
        obtain ⟨ql, qu, qc, qb⟩ := q
        simp only [two] at u1 u2 d0 d1 hul
        obtain ⟨u, rfl⟩ : ∃ u : Nat, qu = (u : Int) := ⟨qu.toNat, by omega⟩
        have hqw : IntKind.i64.wrap (ql.tdiv s.unit) = (u : Int) := by rw [← hul]; exact IntWalk.i64_in _ (by omega)
        clear hC hpt hb hee hbb hq hq2
        generalize waysOf (s.parts.take j) (ways0 N) = c0 at *
        have HWP : Hid (wayPart c0 u = wayTo c0 u (M - u)) := Lib.hid (by unfold wayPart; rw [HL.out])
        clear hul
        go_wp2
        go_loopw [11] (fun k wk => ∃ K i : Nat, k = .int .i64 K ∧ Hid (K = u + i) ∧ (K ≤ M ∨ i = 0) ∧ Bk wk w2.heap.size 3 (i64s (wayTo c0 u i)).toArray ∧ Same rb wo wk ∧ wo.heap.size ≤ wk.heap.size ∧ Below w.heap.size w wk) (fun k _ => M - (intOf k).toNat)
        case atStart =>
          have hb0 := HB.out
          have hc0 := HC.out
          exact ⟨u, 0, rfl, Lib.hid (by omega), .inr rfl, (by show Bk _ _ _ (i64s c0).toArray; exact hc0), Same.refl _ _, Nat.le_refl _, hb0⟩
        case round =>
          obtain ⟨K, i, rfl, hK, hKM, hC, hsm, hsz, hb⟩ := hrel
          have HC2 := Lib.hid hC
          have HSM := Lib.hid hsm
          have HB2' := Lib.hid hb
          have hlc : (wayTo c0 u i).length = M := by rw [wayTo_length]; exact HL.out
          have hKi := hK.out
          have ogr := hC.lt
          have e0 := (hsm (ro + j * 2)).trans d0
          by_cases hlt : K < M
          · have hi : i < M := by omega
            obtain ⟨x0, g0⟩ := bk_at hC (k := K) (by rw [hlc]; exact hlt)
            obtain ⟨x1, g1⟩ := bk_at hC (k := i) (by rw [hlc]; exact hi)
            have hcn := HCN.out.to u i
            have hA := hcn.at_ K
            have hBd := hcn.at_ i
            have HST : Hid (wayTo c0 u (i + 1) = (wayTo c0 u i).set K (min ((wayTo c0 u i).getD K 0 + (wayTo c0 u i).getD i 0) 1000001)) := Lib.hid (by simp only [wayTo, wayStep]; rw [← hKi, show K - u = i by omega])
            obtain ⟨hA1, hA2⟩ := hA
            obtain ⟨hB1, hB2⟩ := hBd
            have hsub : IntKind.i64.wrap ((K : Int) - (u : Int)) = (i : Int) := by rw [IntWalk.i64_in _ (by omega)]; omega
            have orr : rb < wr.heap.size := by omega
            have hle : (K : Int) ≤ (N : Int) := by have := HMN.out; omega
            clear hC hsm hb hlc hKi hKM hcn
            generalize (wayTo c0 u i).getD K 0 = a at *
            generalize (wayTo c0 u i).getD i 0 = b at *
            have hsum : IntKind.i64.wrap (a + b) = a + b := IntWalk.i64_in _ (by omega)
            go_wp2
            go_region
            go_wp2
            go_roundw
            case rel =>
              have hb0 := HB2'.out
              have hc0 := bk_set HC2.out K (min (a + b) 1000001)
              rw [← HST.out] at hc0
              exact ⟨K + 1, i + 1, by go_num, Lib.hid (by have := hK.out; omega), .inl (by omega), hc0, HSM.out.set _ (by show w2.heap.size ≠ rb; omega), by simpa using hsz, (by repeat (first | with_reducible exact Below.refl _ _ | with_reducible assumption | with_reducible refine Below.drew ?_ | with_reducible refine Below.drewN ?_ _ | with_reducible refine Below.alloc2 ?_ _ | with_reducible refine Below.alloc ?_ (by first | omega | (simp <;> omega)) _ | with_reducible refine Below.setCell ?_ (by first | omega | (simp <;> omega)) _ | with_reducible refine Below.step2 (by with_reducible assumption) ?_ | with_reducible refine Below.step (by with_reducible assumption) ?_ (by first | omega | (simp <;> omega))))⟩
            case measure => simp [intOf]; omega
          · have hiM : M - u = i := by rcases hKM with h | h <;> omega
            have hle : ¬ (K : Int) ≤ (N : Int) := by have := HMN.out; omega
            clear hC hsm hb
            go_wp2
            go_roundw
            case rel =>
              have hc0 := HC2.out
              rw [← hiM, ← HWP.out] at hc0
              have hwt := HWT.out
              rw [show (Part.mk ql (u : Int) qc qb).units.toNat = u from Int.toNat_natCast u] at hwt
              exact ⟨j + 1, by omega, by go_num, by rw [hwt]; exact hc0, HPT.out.keep HSM.out, by omega, HB2'.out⟩
            case measure => simp [intOf]; omega
      · have e : m = j := by omega
        subst e
        have hta : s.parts.take m = s.parts := List.take_of_length_le (by rw [HPL.out]; exact Nat.le_refl _)
        rw [hta] at hC HL HCN
        obtain ⟨x0, g0⟩ := bk_at hC (k := N) (by rw [HL.out, HMN.out]; omega)
        have hA := HCN.out.at_ N
        obtain ⟨hA1, hA2⟩ := hA
        have hNM : N < M := by have := HMN.out; omega
        have hwn : waysN s.parts N = (waysOf s.parts (ways0 N)).getD N 0 := rfl
        rw [← hwn] at x0 hA1 hA2
        generalize waysN s.parts N = a at *
        clear hC hpt hb hwn hta
        by_cases ha : a ≤ 1000000
        · rw [if_pos ha] at HR0
          go_wp2
          go_ret2
          exact ⟨HB.out, by rw [HR0.out]; rfl⟩
        · rw [if_neg ha] at HR0
          go_wp2
          go_ret2
          exact ⟨HB.out, by rw [HR0.out]; rfl⟩
  · have hw0 : s.ways x = (0, 0) := by unfold Sys.ways; rw [if_pos hr]
    rw [hw0]
    have hrb : (x.tmod s.unit == 0) = false := by simpa using hr
    have hrn : (x.tmod s.unit != 0) = true := by simpa using hr
    clear hw0 hx0
    go_enter Try.func33, Try.ntmps33
    go_wp2_with (go_at_call 46; refine (refUnit_any _ _ _ _ _ _ _ _ (HS.out _ (by exact (by repeat (first | with_reducible exact Below.refl _ _ | with_reducible assumption | with_reducible refine Below.drew ?_ | with_reducible refine Below.drewN ?_ _ | with_reducible refine Below.alloc2 ?_ _ | with_reducible refine Below.alloc ?_ (by first | omega | (simp <;> omega)) _ | with_reducible refine Below.setCell ?_ (by first | omega | (simp <;> omega)) _ | with_reducible refine Below.step2 (by with_reducible assumption) ?_ | with_reducible refine Below.step (by with_reducible assumption) ?_ (by first | omega | (simp <;> omega)))))) HOK.out).mono ?_; rintro e w2 ⟨hb2, rfl⟩; have HB2 : Hid (Below w.heap.size w w2) := Lib.hid (by exact (by repeat (first | with_reducible exact Below.refl _ _ | with_reducible assumption | with_reducible refine Below.drew ?_ | with_reducible refine Below.drewN ?_ _ | with_reducible refine Below.alloc2 ?_ _ | with_reducible refine Below.alloc ?_ (by first | omega | (simp <;> omega)) _ | with_reducible refine Below.setCell ?_ (by first | omega | (simp <;> omega)) _ | with_reducible refine Below.step2 (by with_reducible assumption) ?_ | with_reducible refine Below.step (by with_reducible assumption) ?_ (by first | omega | (simp <;> omega))))); clear hb2)
    go_ret2
    exact ⟨HB2.out, rfl⟩

end Go.Proofs.Ytkcbfkflkepfeaa
