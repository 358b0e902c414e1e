/- Walks of the reference: Table. -/
import Derived.Test.YtkcbfkflkepfeaaTableOf
import Derived.Test.YtkcbfkflkepfeaaRefWays
namespace Go.Proofs.Ytkcbfkflkepfeaa
open Go.RowKit

set_option maxRecDepth 100000 in
set_option maxHeartbeats 8000000 in
theorem refTable_n (A A2 : Option Addr) (n c n2 c2 : Nat) (s : Sys) (w : World) (h : SysAt w w.heap.size A n c A2 n2 c2 s) (hs : s.Ok) (most : Int) (N : Nat) (r : Int) (hN : most = s.unit * (N : Int) + r) (hr0 : 0 ≤ r) (hr1 : r < s.unit) (hN4 : N ≤ 4000) :
    Calls Try.prog 30 #[.agg #[.slice A n c, .slice A2 n2 c2, .int .i64 s.width, .int .i64 s.gap, .int .i64 s.lift], .int .i64 most] w fun e w' => Below w.heap.size w w' ∧ ∃ TA tc, e = .returned (.slice TA (N + 1) tc) ∧ Ints w' w'.heap.size TA (N + 1) tc (tab s.parts N) := by
  have hcapA := h.a.nums.cap; have hmaxA := h.a.nums.max; have hcapB := h.b.nums.cap; have hmaxB := h.b.nums.max; have HLA := Lib.hid h.a.nums.len; have HLB := Lib.hid h.b.nums.len; have H : Hid (∀ w', Below w.heap.size w w' → SysAt w' w.heap.size A n c A2 n2 c2 s) := fun w' hb => h.below hb (Nat.le_refl _) (Nat.le_refl _); have HS : Hid (∀ w', Below w.heap.size w w' → SysAt w' w'.heap.size A n c A2 n2 c2 s) := fun w' hb => h.below hb (Nat.le_refl _) hb.size; clear h
  have HOK := Lib.hid hs
  have hu := hs.unit_bd
  obtain ⟨hu1, hu2⟩ := hu
  have hu0 : ¬ s.unit = 0 := by omega
  have HF := Lib.hid HOK.out.fine
  have HUL := Lib.hid s.units_len
  obtain ⟨m, hm⟩ : ∃ m : Nat, m = n + n2 := ⟨_, rfl⟩
  have HM := Lib.hid hm
  have HPL : Hid (s.parts.length = m) := Lib.hid (by unfold Sys.parts; rw [List.length_append, List.length_map, List.length_map, HLA.out, HLB.out, hm])
  have hm1 : 1 ≤ m := by have := hs.parts_len; have := HPL.out; omega
  have hm2 : m ≤ 16 := by have := hs.parts_len; have := HPL.out; omega
  have HLE : Hid (∀ K : Nat, K ≤ N + 1 → (IntKind.i64.wrap ((K : Int) * s.unit) = (K : Int) * s.unit) ∧ (K ≤ N ↔ (K : Int) * s.unit ≤ most)) := Lib.hid (fun K hK => by
    have h1 : 0 ≤ (K : Int) * s.unit := Int.mul_nonneg (by omega) (by omega)
    have h2 := Int.mul_le_mul_of_nonneg_right (show (K : Int) ≤ 4001 by omega) (show 0 ≤ s.unit by omega)
    refine ⟨IntWalk.i64_in _ (by omega), fun h => ?_, fun h => ?_⟩
    · have := Int.mul_le_mul_of_nonneg_right (show (K : Int) ≤ (N : Int) by omega) (show 0 ≤ s.unit by omega)
      rw [Int.mul_comm (N : Int)] at this
      omega
    · rcases Nat.lt_or_ge N K with hlt | hge
      · obtain rfl : K = N + 1 := by omega
        rw [show ((N + 1 : Nat) : Int) = (N : Int) + 1 by omega, Int.add_mul, Int.mul_comm (N : Int)] at h
        omega
      · exact hge)
  obtain ⟨i0, hi0, hz0, hz1, hz2⟩ := info_parts info_int
  have HI0 := Lib.hid hi0
  have HZ0 := Lib.hid hz0
  have HZ1 := Lib.hid hz1
  have HZ2 := Lib.hid hz2
  clear hs hm hN hr0 hr1 hi0 hz0 hz1 hz2
  go_enter Try.func30, Try.ntmps30
  go_wp2_with (first
    | (go_at_call 46; refine (refUnit_any _ _ _ _ _ _ _ _ (HS.out _ (by exact (by repeat (first | with_reducible exact Below.refl _ _ | with_reducible assumption | with_reducible refine Below.drew ?_ | with_reducible refine Below.drewN ?_ _ | with_reducible refine Below.alloc2 ?_ _ | with_reducible refine Below.alloc ?_ (by first | omega | (simp <;> omega)) _ | with_reducible refine Below.setCell ?_ (by first | omega | (simp <;> omega)) _ | with_reducible refine Below.step2 (by with_reducible assumption) ?_ | with_reducible refine Below.step (by with_reducible assumption) ?_ (by first | omega | (simp <;> omega)))))) HOK.out).mono ?_; rintro e w1 ⟨hb1, rfl⟩; have HB1 : Hid (Below w.heap.size w w1) := Lib.hid (by exact (by repeat (first | with_reducible exact Below.refl _ _ | with_reducible assumption | with_reducible refine Below.drew ?_ | with_reducible refine Below.drewN ?_ _ | with_reducible refine Below.alloc2 ?_ _ | with_reducible refine Below.alloc ?_ (by first | omega | (simp <;> omega)) _ | with_reducible refine Below.setCell ?_ (by first | omega | (simp <;> omega)) _ | with_reducible refine Below.step2 (by with_reducible assumption) ?_ | with_reducible refine Below.step (by with_reducible assumption) ?_ (by first | omega | (simp <;> omega))))); have HK1 : Hid (Bk w1 w.heap.size 24 #[.slice A n c, .slice A2 n2 c2, .int .i64 s.width, .int .i64 s.gap, .int .i64 s.lift]) := Lib.hid (by exact (by repeat (first | with_reducible assumption | with_reducible exact Bk.at_ (by first | (simp; done) | omega) | with_reducible refine Bk.alloc ?_ _ | with_reducible refine Bk.drew ?_ | with_reducible refine Bk.drewN ?_ _ | with_reducible refine Bk.step (by with_reducible assumption) ?_ (by first | omega | (simp <;> omega))))); have HG1 : Hid (Bk w1 (w.heap.size + 1) 3 #[.int .i64 0]) := Lib.hid (by exact (by repeat (first | with_reducible assumption | with_reducible exact Bk.at_ (by first | (simp; done) | omega) | with_reducible refine Bk.alloc ?_ _ | with_reducible refine Bk.drew ?_ | with_reducible refine Bk.drewN ?_ _ | with_reducible refine Bk.step (by with_reducible assumption) ?_ (by first | omega | (simp <;> omega))))); obtain ⟨⟨b0, b1, b2, b3, b4⟩, -⟩ := HK1.out.five; clear hb1)
    | (go_at_call 47; refine (refParts_any _ _ _ _ _ _ _ _ (HS.out _ HB1.out) HOK.out).mono ?_; rintro e w2 ⟨hb2, RA, rc, rfl, hpt, hfr⟩; rw [← HM.out] at hpt; have HB2 : Hid (Below w.heap.size w w2) := Lib.hid (by have hb0 := HB1.out; exact (by repeat (first | with_reducible exact Below.refl _ _ | with_reducible assumption | with_reducible refine Below.drew ?_ | with_reducible refine Below.drewN ?_ _ | with_reducible refine Below.alloc2 ?_ _ | with_reducible refine Below.alloc ?_ (by first | omega | (simp <;> omega)) _ | with_reducible refine Below.setCell ?_ (by first | omega | (simp <;> omega)) _ | with_reducible refine Below.step2 (by with_reducible assumption) ?_ | with_reducible refine Below.step (by with_reducible assumption) ?_ (by first | omega | (simp <;> omega))))); have HG2 := Lib.hid (HG1.out.below hb2 HG1.out.lt); have HPT2 := Lib.hid hpt; have HFR := Lib.hid hfr; clear hb2 hpt hfr))
  obtain ⟨rb, ro, -, rfl, hrb, -, -, -⟩ := HPT2.out.at_ (show 0 < m by omega)
  have opg : w.heap.size + 1 < rb := by
    have h1 := HFR.out _ rfl
    have h2 := HG1.out.lt
    have h3 : w1.heap.size ≤ rb := h1
    omega
  have hpcap := HPT2.out.cap
  have hpmax := HPT2.out.max
  have hown0 : w2.ownsRow (w.heap.size + 1) 3 1 (.slice (some ⟨w.heap.size + 1, 0, none⟩) 1 1) 1 (i64s (tab s.parts (1 - 1))) := ⟨by simp [tab, i64s], .inr ⟨w.heap.size + 1, 1, #[.int .i64 0], rfl, by omega, HG2.out, Nat.le_refl _, by unfold maxLen; omega, rfl, by simp [tab, i64s]⟩⟩
  have HOWN0 := Lib.hid hown0
  clear hown0
  rw [← HM.out]
  go_wp2_with fail
  go_loopw [5, 8] (fun v i wr => ∃ K : Nat, (1 ≤ K ∧ K ≤ N + 1) ∧ i = .int .i64 K ∧ wr.ownsRow (w.heap.size + 1) 3 1 v K (i64s (tab s.parts (K - 1))) ∧ some rb ≠ v.ownBlock ∧ RParts wr (rb + 1) (some ⟨rb, ro, none⟩) m rc (s.parts.map two) ∧ rb < wr.heap.size ∧ Below w.heap.size w wr) (fun _ i _ => N + 1 - (intOf i).toNat)
  case atStart => exact ⟨1, ⟨Nat.le_refl _, by omega⟩, rfl, HOWN0.out, by simp [Value.ownBlock]; omega, HPT2.out.keep (fun _ => rfl), hrb, HB2.out⟩
  case round =>
    obtain ⟨K, ⟨hK1, hK2⟩, rfl, hown, hne, hpt, hpb, hb⟩ := hrel
    obtain ⟨wo, rfl⟩ : ∃ x, x = wr := ⟨_, rfl⟩
    have HNE := Lib.hid hne
    have HOWN := Lib.hid hown
    have HPT := Lib.hid hpt
    have HB := Lib.hid hb
    obtain ⟨TA, tc, rfl, hI⟩ := Ints.of_own hown
    have hIc := hI.nums.cap
    have hIm := hI.nums.max
    have HI : Hid (∀ w', Below wo.heap.size wo w' → Ints w' wo.heap.size TA K tc (tab s.parts (K - 1))) := fun w' hb => hI.below hb (Nat.le_refl _) (Nat.le_refl _)
    have hle := HLE.out K hK2
    obtain ⟨hkw, hki⟩ := hle
    have ow := hb.size
    clear hown hpt hb hI hne
    by_cases hlt : K ≤ N
    · have hkm := hki.1 hlt
      have HCB := Lib.hid (codes_big HF.out (K := K) (by omega))
      clear hki
      generalize hku : (K : Int) * s.unit = ku at *
      go_wp2
      go_loopw [9, 10] (fun b i wk => ∃ j : Nat, j ≤ m ∧ i = .int .i64 j ∧ b = .int .i64 ((s.parts.take j).foldl (fun b p => pick b (codeAt (tab s.parts (K - 1)) p K)) (-1)) ∧ Below wo.heap.size wo wk) (fun _ i _ => m - (intOf i).toNat)
      case atStart => exact ⟨0, Nat.zero_le _, rfl, rfl, Below.refl _ _⟩
      case round =>
        obtain ⟨i, hj, rfl, rfl, hbk⟩ := hrel
        have HBI := Lib.hid hbk
        have owk := hbk.size
        by_cases hjm : i < m
        · obtain ⟨b', o', q2, hee, hbb, hq2, d0, d1⟩ := (HPT.out.below hbk (show rb + 1 ≤ wo.heap.size by omega) (Nat.le_refl _)).at_ hjm
          obtain ⟨rfl, rfl⟩ : rb = b' ∧ ro = o' := by simpa using hee
          obtain ⟨q, hq, rfl⟩ : ∃ q, s.parts[i]? = some q ∧ two q = q2 := by rw [List.getElem?_map] at hq2; simpa using hq2
          have hqf := HF.out q (List.mem_of_getElem? hq)
          have hul := HUL.out q (List.mem_of_getElem? hq)
          have HBT := Lib.hid (best_take (T := tab s.parts (K - 1)) (K := K) hq)
          have hbd := best_take_bd HF.out K (by omega) i
          obtain ⟨bd1, bd2⟩ := hbd
          have orb : rb < wr.heap.size := by omega
          obtain ⟨⟨u1, u2⟩, v1, v2⟩ := hqf
          obtain ⟨ql, qu, qc, qb⟩ := q
          simp only [two] at u1 u2 v1 v2 d0 d1 hul
          obtain ⟨u, rfl⟩ : ∃ u : Nat, qu = (u : Int) := ⟨qu.toNat, by omega⟩
          have hqw : IntKind.i64.wrap (ql.tdiv s.unit) = (u : Int) := by rw [← hul]; exact IntWalk.i64_in _ (by omega)
          clear hee hbb hq hq2 hul
          generalize (s.parts.take i).foldl (fun b p => pick b (codeAt (tab s.parts (K - 1)) p K)) (-1) = b at *
          by_cases g1 : u ≤ K
          · obtain ⟨d, hd⟩ : ∃ d : Nat, d = K - u := ⟨_, rfl⟩
            have hsub : IntKind.i64.wrap ((K : Int) - (u : Int)) = (d : Int) := by rw [IntWalk.i64_in _ (by omega)]; omega
            obtain ⟨tb, tof, x, rfl, htb, hx, e0⟩ := (HI.out _ HBI.out).nums.at_ (show d < K by omega)
            have hxb := HCB.out x (List.mem_of_getElem? hx)
            obtain ⟨x1, x2⟩ := hxb
            have otb : tb < wr.heap.size := by omega
            have hcode : codeAt (tab s.parts (K - 1)) ⟨ql, u, qc, qb⟩ K = if x = -1 then -1 else x + qc := by
              unfold codeAt
              rw [if_neg (by simp only; omega)]
              simp only [Int.toNat_natCast]
              rw [← hd, getD_of hx]
            rw [hcode] at HBT
            have hsum : IntKind.i64.wrap (x + qc) = x + qc := IntWalk.i64_in _ (by omega)
            have hdK : d < K := by omega
            have hzg : (u : Int) ≤ (K : Int) := by omega
            clear hcode hx hd htb
            by_cases g2 : 0 ≤ x
            · rw [if_neg (by omega)] at HBT
              by_cases g3 : b < 0
              · have hp : pick b (x + qc) = x + qc := by unfold pick; rw [if_pos]; omega
                rw [hp] at HBT
                clear hp
                go_wp2
                go_quiet (fail)
                go_wp2
                go_quiet (fail)
                go_wp2
                go_roundw
                case rel => exact ⟨i + 1, by omega, by go_num, by rw [HBT.out], (by have hb0 := HBI.out; exact (by repeat (first | with_reducible exact Below.refl _ _ | with_reducible assumption | with_reducible refine Below.drew ?_ | with_reducible refine Below.drewN ?_ _ | with_reducible refine Below.alloc2 ?_ _ | with_reducible refine Below.alloc ?_ (by first | omega | (simp <;> omega)) _ | with_reducible refine Below.setCell ?_ (by first | omega | (simp <;> omega)) _ | with_reducible refine Below.step2 (by with_reducible assumption) ?_ | with_reducible refine Below.step (by with_reducible assumption) ?_ (by first | omega | (simp <;> omega)))))⟩
                case measure => simp [intOf]; omega
              · by_cases g4 : x + qc < b
                · have hp : pick b (x + qc) = x + qc := by unfold pick; rw [if_pos]; omega
                  rw [hp] at HBT
                  clear hp
                  go_wp2
                  go_quiet (fail)
                  go_wp2
                  go_quiet (fail)
                  go_wp2
                  go_roundw
                  case rel => exact ⟨i + 1, by omega, by go_num, by rw [HBT.out], (by have hb0 := HBI.out; exact (by repeat (first | with_reducible exact Below.refl _ _ | with_reducible assumption | with_reducible refine Below.drew ?_ | with_reducible refine Below.drewN ?_ _ | with_reducible refine Below.alloc2 ?_ _ | with_reducible refine Below.alloc ?_ (by first | omega | (simp <;> omega)) _ | with_reducible refine Below.setCell ?_ (by first | omega | (simp <;> omega)) _ | with_reducible refine Below.step2 (by with_reducible assumption) ?_ | with_reducible refine Below.step (by with_reducible assumption) ?_ (by first | omega | (simp <;> omega)))))⟩
                  case measure => simp [intOf]; omega
                · have hp : pick b (x + qc) = b := by unfold pick; rw [if_neg]; omega
                  rw [hp] at HBT
                  clear hp
                  go_wp2
                  go_quiet (fail)
                  go_wp2
                  go_roundw
                  case rel => exact ⟨i + 1, by omega, by go_num, by rw [HBT.out], (by have hb0 := HBI.out; exact (by repeat (first | with_reducible exact Below.refl _ _ | with_reducible assumption | with_reducible refine Below.drew ?_ | with_reducible refine Below.drewN ?_ _ | with_reducible refine Below.alloc2 ?_ _ | with_reducible refine Below.alloc ?_ (by first | omega | (simp <;> omega)) _ | with_reducible refine Below.setCell ?_ (by first | omega | (simp <;> omega)) _ | with_reducible refine Below.step2 (by with_reducible assumption) ?_ | with_reducible refine Below.step (by with_reducible assumption) ?_ (by first | omega | (simp <;> omega)))))⟩
                  case measure => simp [intOf]; omega
            · have hp : pick b (if x = -1 then -1 else x + qc) = b := by unfold pick; rw [if_pos (show x = -1 by omega)]; simp
              rw [hp] at HBT
              obtain rfl : x = -1 := by omega
              have hxd : decide ((0 : Int) ≤ -1) = false := by decide
              clear hp hsum
              go_wp2
              go_quiet (fail)
              go_wp2
              go_roundw
              case rel => exact ⟨i + 1, by omega, by go_num, by rw [HBT.out], (by have hb0 := HBI.out; exact (by repeat (first | with_reducible exact Below.refl _ _ | with_reducible assumption | with_reducible refine Below.drew ?_ | with_reducible refine Below.drewN ?_ _ | with_reducible refine Below.alloc2 ?_ _ | with_reducible refine Below.alloc ?_ (by first | omega | (simp <;> omega)) _ | with_reducible refine Below.setCell ?_ (by first | omega | (simp <;> omega)) _ | with_reducible refine Below.step2 (by with_reducible assumption) ?_ | with_reducible refine Below.step (by with_reducible assumption) ?_ (by first | omega | (simp <;> omega)))))⟩
              case measure => simp [intOf]; omega
          · have hp : pick b (codeAt (tab s.parts (K - 1)) ⟨ql, u, qc, qb⟩ K) = b := by unfold codeAt; rw [if_pos (by simp only; omega)]; unfold pick; simp
            rw [hp] at HBT
            clear hp
            go_wp2
            go_quiet (fail)
            go_wp2
            go_roundw
            case rel => exact ⟨i + 1, by omega, by go_num, by rw [HBT.out], (by have hb0 := HBI.out; exact (by repeat (first | with_reducible exact Below.refl _ _ | with_reducible assumption | with_reducible refine Below.drew ?_ | with_reducible refine Below.drewN ?_ _ | with_reducible refine Below.alloc2 ?_ _ | with_reducible refine Below.alloc ?_ (by first | omega | (simp <;> omega)) _ | with_reducible refine Below.setCell ?_ (by first | omega | (simp <;> omega)) _ | with_reducible refine Below.step2 (by with_reducible assumption) ?_ | with_reducible refine Below.step (by with_reducible assumption) ?_ (by first | omega | (simp <;> omega)))))⟩
            case measure => simp [intOf]; omega
        · have e : m = i := by omega
          subst e
          have HBE : Hid ((s.parts.take m).foldl (fun b p => pick b (codeAt (tab s.parts (K - 1)) p K)) (-1) = bestOf s.parts (tab s.parts (K - 1)) K) := Lib.hid (by rw [List.take_of_length_le (by rw [HPL.out]; exact Nat.le_refl _)]; rfl)
          generalize (s.parts.take m).foldl (fun b p => pick b (codeAt (tab s.parts (K - 1)) p K)) (-1) = b at *
          have HOW1 := Lib.hid (own_step HOWN.out HBI.out)
          have op2 : rb < wr.heap.size := by omega
          clear hbk
          go_wp2_with (at_builtin; refine wpList_append_own_at _ rfl _ _ _ rfl (w.heap.size + 1) 3 i0 _ 1 8 Try.underlying22 HI0.out HZ0.out HZ1.out HZ2.out rfl (by omega) (.slice TA K tc) K _ rfl (HOW1.out.alloc _) ⟨wr.heap.size, 0, none⟩ 1 1 [.int .i64 b] rfl rfl (World.news_of_block (cs := #[.int .i64 b]) (t := 3) (fr := (0, 0)) (heap_alloc_new wr _)) (i64s_one [b]) (by unfold maxLen; omega) (by omega) (by simp; omega) ?_; intro v1 w1 hown1 hg1 _ hob; have HNB : Hid (some rb ≠ v1.ownBlock) := Lib.hid (by rcases hob with e | e <;> rw [e]; exact HNE.out; intro h; simp at h; omega); have HG1 := Lib.hid hg1; have HO1 := Lib.hid hown1; clear hown1 hg1 hob)
          go_roundw
          case rel =>
            have hb0 := HB.out
            have hbk := HBI.out
            have hbl : Below w.heap.size w wr := (by repeat (first | with_reducible exact Below.refl _ _ | with_reducible assumption | with_reducible refine Below.drew ?_ | with_reducible refine Below.drewN ?_ _ | with_reducible refine Below.alloc2 ?_ _ | with_reducible refine Below.alloc ?_ (by first | omega | (simp <;> omega)) _ | with_reducible refine Below.setCell ?_ (by first | omega | (simp <;> omega)) _ | with_reducible refine Below.step2 (by with_reducible assumption) ?_ | with_reducible refine Below.step (by with_reducible assumption) ?_ (by first | omega | (simp <;> omega))))
            refine ⟨K + 1, ⟨by omega, by omega⟩, by go_num, ?_, HNB.out, HPT.out.keep ((((Same.refl rb wo).step hbk hpb).alloc _ op2).grown HG1.out (by simp; omega) HNE.out), by have := HG1.out.size; simp at this; omega, (hbl.alloc hbl.size _).grown HG1.out (by simp; omega) (fun q hq => by have := (HOW1.out.lt _ hq).1; omega)⟩
            rw [Nat.add_sub_cancel, tab_pred _ hK1, i64s_append, ← HBE.out]
            exact HO1.out
          case measure => simp [intOf]; omega
    · have hkm : ¬ (K : Int) * s.unit ≤ most := fun h => hlt (hki.2 h)
      obtain rfl : K = N + 1 := by omega
      have hiw := HI.out wo (Below.refl _ _)
      rw [Nat.add_sub_cancel] at hiw
      have HIW := Lib.hid hiw
      clear hiw
      clear hki
      generalize hku : ((N + 1 : Nat) : Int) * s.unit = ku at *
      generalize hNN : N + 1 = M at *
      go_wp2
      go_ret
      exact ⟨HB.out, _, _, rfl, HIW.out⟩

end Go.Proofs.Ytkcbfkflkepfeaa
