/- Chapter 6, walks: the reference's Shares. -/
import Derived.Test.YtfnphhmcbdoojaaGreatDoorRefWind6
namespace Go.Proofs.YtfnphhmcbdoojaaGreatDoor
open Go.RowKit

set_option maxHeartbeats 400000 in
theorem abs_diff (x y : Int) (w : World) (h1 : -1000000 ≤ x) (h2 : x ≤ 1000000) (h3 : -1000000 ≤ y) (h4 : y ≤ 1000000) : Calls Tryz.prog 72 #[.int .i64 (x - y)] w fun e w' => w = w' ∧ e = .returned (.int .i64 (absD y x)) := by
  have HD : Hid (∀ z, (x - y < 0 → z = -(x - y)) → (¬ x - y < 0 → z = x - y) → z = absD y x) := Lib.hid fun z h5 h6 => by unfold absD; omega
  obtain ⟨d, hd⟩ : ∃ d, x - y = d := ⟨_, rfl⟩
  have hdb : -2000000 ≤ d ∧ d ≤ 2000000 := by omega
  rw [hd] at HD ⊢
  clear h1 h2 h3 h4 hd
  have hw : IntKind.i64.wrap (-d) = -d := IntWalk.i64_in _ (by omega)
  by_cases h : d < 0
  · go_enter Tryz.func72, Tryz.ntmps72
    go_wp2
    go_ret
    exact ⟨rfl, ret_int (HD.out _ (fun _ => rfl) (fun h2 => by omega))⟩
  · go_enter Tryz.func72, Tryz.ntmps72
    go_wp2
    go_ret
    exact ⟨rfl, ret_int (HD.out _ (fun h2 => by omega) (fun _ => rfl))⟩

def bestTo (a lv : List Int) (l : List (Int × Int)) (u : Int × Int) : Nat → Int × Int
  | 0 => (-1, 0)
  | j + 1 => ((nearTo a lv l u (j + 1) : Nat), wayI a lv (l.getD (nearTo a lv l u (j + 1)) (0, 0)) u)
theorem bestTo_succ (a lv : List Int) (l : List (Int × Int)) (u : Int × Int) : ∀ (j : Nat), bestTo a lv l u (j + 1) = if (bestTo a lv l u j).1 < 0 ∨ wayI a lv (l.getD j (0, 0)) u < (bestTo a lv l u j).2 then ((j : Int), wayI a lv (l.getD j (0, 0)) u) else bestTo a lv l u j
  | 0 => by
    rw [if_pos (.inl (by simp [bestTo]))]
    simp [bestTo, nearTo]
  | j + 1 => by
    have hpos : ¬ (bestTo a lv l u (j + 1)).1 < 0 := by simp only [bestTo]; omega
    by_cases h : wayI a lv (l.getD (j + 1) (0, 0)) u < (bestTo a lv l u (j + 1)).2
    · rw [if_pos (.inr h)]
      have h2 : wayI a lv (l.getD (j + 1) (0, 0)) u < wayI a lv (l.getD (nearTo a lv l u (j + 1)) (0, 0)) u := h
      have e : nearTo a lv l u (j + 1 + 1) = j + 1 := by
        show (if _ then _ else _) = _
        rw [if_pos h2]
      simp only [bestTo]
      rw [e]
    · rw [if_neg (fun hh => hh.elim hpos h)]
      have h2 : ¬ wayI a lv (l.getD (j + 1) (0, 0)) u < wayI a lv (l.getD (nearTo a lv l u (j + 1)) (0, 0)) u := h
      have e : nearTo a lv l u (j + 1 + 1) = nearTo a lv l u (j + 1) := by
        show (if _ then _ else _) = _
        rw [if_neg h2]
      show (((nearTo a lv l u (j + 1 + 1) : Nat) : Int), wayI a lv (l.getD (nearTo a lv l u (j + 1 + 1)) (0, 0)) u) = _
      rw [e]
      rfl
set_option maxRecDepth 100000 in
set_option maxHeartbeats 8000000 in
theorem refShares_any (f : Int) (A A2 T V : Option Addr) (n c m c2 k0 ct wn cw : Nat) (a lv wind : List Int) (l : List (Int × Int)) (w : World) (ha : Nums w w.heap.size A n c a) (hl : Nums w w.heap.size A2 m c2 lv) (ht : Pts w w.heap.size T k0 ct l) (hv : Nums w w.heap.size V wn cw wind)
    (hn : n ≤ 60) (hm1 : 1 ≤ m) (hm : m ≤ 60) (hk0 : 1 ≤ k0) (hk : k0 ≤ 1800) (hwn : wn = n * m) (ba : allIn (-1000000) 1000000 a = true) (bl : allIn 1 1000000 lv = true) (bw : allIn 0 1000000 wind = true) (hin : l.any (fun t => !tieIn n m t) = false) :
    Calls Tryz.prog 37 #[.agg #[.int .i64 f, .slice A n c, .slice A2 m c2], .slice T k0 ct, .slice V wn cw] w fun e w' => Below w.heap.size w w' ∧ ∃ g, e = .returned (.slice (some ⟨g, 0, none⟩) k0 k0) ∧ Nums w' w'.heap.size (some ⟨g, 0, none⟩) k0 k0 (sharesTo a lv l m k0 wind wn) := by
  have HLEN := Lib.hid ht.len
  have hcapA := ha.cap
  have hmaxA := ha.max
  have hcapB := hl.cap
  have hmaxB := hl.max
  have hcapT := ht.cap
  have hmaxT := ht.max
  have hcapv := hv.cap
  have hmaxv := hv.max
  have HA0 : Hid (∀ w', Below w.heap.size w w' → Nums w' w.heap.size A n c a) := fun w' hb => ha.below hb (Nat.le_refl _) (Nat.le_refl _)
  have HL0 : Hid (∀ w', Below w.heap.size w w' → Nums w' w.heap.size A2 m c2 lv) := fun w' hb => hl.below hb (Nat.le_refl _) (Nat.le_refl _)
  have HT0 : Hid (∀ w', Below w.heap.size w w' → Pts w' w.heap.size T k0 ct l) := fun w' hb => ht.below hb (Nat.le_refl _) (Nat.le_refl _)
  have HV0 : Hid (∀ w', Below w.heap.size w w' → Nums w' w.heap.size V wn cw wind) := fun w' hb => hv.below hb (Nat.le_refl _) (Nat.le_refl _)
  have HIN : Hid (∀ t ∈ l, tieIn n m t = true) := Lib.hid fun t hx => by have := List.any_eq_false.1 hin t hx; simpa using this
  have HIA : Hid (∀ x ∈ a, -1000000 ≤ x ∧ x ≤ 1000000) := Lib.hid fun x hx => by simpa using List.all_eq_true.1 ba x hx
  have HIL : Hid (∀ x ∈ lv, 1 ≤ x ∧ x ≤ 1000000) := Lib.hid fun x hx => by simpa using List.all_eq_true.1 bl x hx
  have HBD := Lib.hid (fun q r => sharesTo_bd (a := a) (lv := lv) (l := l) (m := m) (k0 := k0) bw q r)
  have HFB := Lib.hid (fun q => getD_bd bw q)
  have hwle : wn ≤ 3600 := by have : n * m ≤ 60 * 60 := Nat.mul_le_mul hn hm; omega
  have HWN := Lib.hid hwn
  obtain ⟨i0, hi, hz0, hz1, hz2⟩ := info_parts info_int
  have hmk := make_any (P := Tryz.prog) 22 3 i0 _ Tryz.underlying22 hi hz0 hz1 rfl (by omega) k0 (by rw [hz2]; omega) (by omega)
  rw [Nat.mul_one] at hmk
  have HZ : Hid (∀ W : World, Bk (W.alloc (.cells (zs k0).toArray 3)) W.heap.size 3 (i64s (sharesTo a lv l m k0 wind 0)).toArray) := Lib.hid (fun W => by rw [zs_i64s]; exact Bk.alloc_ _ _ _)
  clear hi hz0 hz1 hz2 ha hl ht hv ba bl bw hin hwn
  go_enter Tryz.func37, Tryz.ntmps37
  go_wp2
  clear hmk
  have HZ1 : Hid (Bk ((w.alloc (.cells #[.int .i64 f, .slice A n c, .slice A2 m c2] 24)).alloc (.cells (zs k0).toArray 3)) (w.heap.size + 1) 3 (i64s (sharesTo a lv l m k0 wind 0)).toArray) := Lib.hid (by have := HZ.out (w.alloc (.cells #[.int .i64 f, .slice A n c, .slice A2 m c2] 24)); simpa using this)
  go_loopw [8, 9, 10, 11, 12, 13] (fun x _ _ _ _ _ wr => ∃ i : Nat, i ≤ n ∧ x = .int .i64 i ∧ Bk wr (w.heap.size + 1) 3 (i64s (sharesTo a lv l m k0 wind (i * m))).toArray ∧ Bk wr w.heap.size 24 #[.int .i64 f, .slice A n c, .slice A2 m c2] ∧ Below w.heap.size w wr) (fun x _ _ _ _ _ _ => n - (intOf x).toNat)
  case atStart => exact ⟨0, Nat.zero_le _, rfl, by rw [Nat.zero_mul]; exact HZ1.out, (by repeat (first | with_reducible assumption | with_reducible exact Bk.at_ (by first | (simp; done) | omega) | with_reducible refine Bk.alloc ?_ _ | with_reducible refine Bk.drew ?_ | with_reducible refine Bk.drewN ?_ _ | with_reducible refine Bk.step (by with_reducible assumption) ?_ (by first | omega | (simp <;> omega)))), (by repeat (first | with_reducible exact Below.refl _ _ | with_reducible assumption | with_reducible refine Below.drew ?_ | with_reducible refine Below.drewN ?_ _ | with_reducible refine Below.alloc2 ?_ _ | with_reducible refine Below.alloc ?_ (by first | omega | (simp <;> omega)) _ | with_reducible refine Below.setCell ?_ (by first | omega | (simp <;> omega)) _ | with_reducible refine Below.step2 (by with_reducible assumption) ?_ | with_reducible refine Below.step (by with_reducible assumption) ?_ (by first | omega | (simp <;> omega))))⟩
  case round =>
    obtain ⟨i, hi, rfl, ho, hg, hb⟩ := hrel
    have HB := Lib.hid hb
    have HO := Lib.hid ho
    have HG := Lib.hid hg
    have og := hg.lt
    obtain ⟨⟨g0, g1, g2⟩, -⟩ := hg.three
    by_cases hlt : i < n
    · clear hb ho hg
      go_wp2
      go_loopw [9, 10, 11, 12, 13] (fun x _ _ _ _ wr => ∃ k : Nat, k ≤ m ∧ x = .int .i64 k ∧ Bk wr (w.heap.size + 1) 3 (i64s (sharesTo a lv l m k0 wind (i * m + k))).toArray ∧ Bk wr w.heap.size 24 #[.int .i64 f, .slice A n c, .slice A2 m c2] ∧ Below w.heap.size w wr) (fun x _ _ _ _ _ => m - (intOf x).toNat)
      case atStart => exact ⟨0, Nat.zero_le _, rfl, HO.out, HG.out, HB.out⟩
      case round =>
        obtain ⟨k, hkm, rfl, ho, hg, hb⟩ := hrel
        have HB := Lib.hid hb
        have HO := Lib.hid ho
        have HG := Lib.hid hg
        have og := hg.lt
        obtain ⟨⟨g0, g1, g2⟩, -⟩ := hg.three
        by_cases hlt2 : k < m
        · clear hb ho hg
          go_wp2
          go_loopw [10, 11, 12, 13] (fun bs ls x _ wr => ∃ j : Nat, j ≤ k0 ∧ x = .int .i64 j ∧ bs = .int .i64 (bestTo a lv l ((i : Int), (k : Int)) j).1 ∧ ls = .int .i64 (bestTo a lv l ((i : Int), (k : Int)) j).2 ∧ Bk wr (w.heap.size + 1) 3 (i64s (sharesTo a lv l m k0 wind (i * m + k))).toArray ∧ Bk wr w.heap.size 24 #[.int .i64 f, .slice A n c, .slice A2 m c2] ∧ Below w.heap.size w wr) (fun _ _ x _ _ => k0 - (intOf x).toNat)
          case atStart => exact ⟨0, Nat.zero_le _, rfl, rfl, rfl, HO.out, HG.out, HB.out⟩
          case round =>
            obtain ⟨j, hj, rfl, rfl, rfl, ho, hg, hb⟩ := hrel
            have HB := Lib.hid hb
            have HO := Lib.hid ho
            have HG := Lib.hid hg
            have og := hg.lt
            obtain ⟨⟨g0, g1, g2⟩, -⟩ := hg.three
            by_cases hlt3 : j < k0
            · obtain ⟨b, o, p, rfl, hbb, hp, c0⟩ := (HA0.out _ hb).at_ hlt
              obtain ⟨d, v, r, rfl, hdd, hr, c1⟩ := (HL0.out _ hb).at_ hlt2
              obtain ⟨tb, to, ⟨t, t'⟩, rfl, htb, htt, e0, e1⟩ := (HT0.out _ hb).at_ hlt3
              dsimp only at e0 e1
              have ht1 := HIN.out _ (List.mem_of_getElem? htt)
              simp only [tieIn, inR, Bool.and_eq_true, decide_eq_true_eq] at ht1
              obtain ⟨t1, rfl⟩ : ∃ i : Nat, t = (i : Int) := ⟨t.toNat, by omega⟩
              obtain ⟨t2, rfl⟩ : ∃ i : Nat, t' = (i : Int) := ⟨t'.toNat, by omega⟩
              obtain ⟨b', o', q, e, -, hq, c2'⟩ := (HA0.out _ hb).at_ (show t1 < n by omega)
              obtain ⟨rfl, rfl⟩ : b = b' ∧ o = o' := by simpa using e
              obtain ⟨d', v', s, e2, -, hs, c3⟩ := (HL0.out _ hb).at_ (show t2 < m by omega)
              obtain ⟨rfl, rfl⟩ : d = d' ∧ v = v' := by simpa using e2
              have hp1 := HIA.out p (List.mem_of_getElem? hp)
              have hq1 := HIA.out q (List.mem_of_getElem? hq)
              have hr1 := HIL.out r (List.mem_of_getElem? hr)
              have hs1 := HIL.out s (List.mem_of_getElem? hs)
              have D1 := Lib.hid (fun W => abs_diff p q W hp1.1 hp1.2 hq1.1 hq1.2)
              have D2 := Lib.hid (fun W => abs_diff r s W (by omega) hr1.2 (by omega) hs1.2)
              have b1 := absD_le hq1.1 hq1.2 hp1.1 hp1.2
              have b2 := absD_le (x := s) (y := r) (by omega) hs1.2 (by omega) hr1.2
              have hw1 : IntKind.i64.wrap (p - q) = p - q := IntWalk.i64_in _ (by omega)
              have hw2 : IntKind.i64.wrap (r - s) = r - s := IntWalk.i64_in _ (by omega)
              obtain ⟨E, hE⟩ : ∃ E, absD q p + absD s r = E := ⟨_, rfl⟩
              have hw3 : IntKind.i64.wrap (absD q p + absD s r) = E := by rw [IntWalk.i64_in _ (by omega), hE]
              have HW : Hid (wayI a lv (l.getD j (0, 0)) ((i : Int), (k : Int)) = E) := Lib.hid (by rw [getT_of htt]; simp [wayI, List.getD_eq_getElem?_getD, hp, hq, hr, hs, hE])
              have z1 : (0 : Int) ≤ (t1 : Int) := by omega
              have z2 : (t1 : Int) < (n : Int) := by omega
              have z3 : (0 : Int) ≤ (t2 : Int) := by omega
              have z4 : (t2 : Int) < (m : Int) := by omega
              have z5 : (0 : Int) ≤ (i : Int) := by omega
              have z6 : (i : Int) < (n : Int) := by omega
              have z7 : (0 : Int) ≤ (k : Int) := by omega
              have z8 : (k : Int) < (m : Int) := by omega
              have z9 : (0 : Int) ≤ (j : Int) := by omega
              have z10 : (j : Int) < (k0 : Int) := by omega
              clear hb ho hg hp hr htt ht1 hq hs e e2 hp1 hq1 hr1 hs1 b1 b2 hE
              have HBS := bestTo_succ a lv l ((i : Int), (k : Int)) j
              rw [HW.out] at HBS
              obtain ⟨bs, hbs⟩ : ∃ x, (bestTo a lv l ((i : Int), (k : Int)) j).1 = x := ⟨_, rfl⟩
              obtain ⟨ls, hls⟩ : ∃ x, (bestTo a lv l ((i : Int), (k : Int)) j).2 = x := ⟨_, rfl⟩
              have hbe : bestTo a lv l ((i : Int), (k : Int)) j = (bs, ls) := by rw [← hbs, ← hls]
              rw [hbe] at HBS ⊢
              have HBN := Lib.hid HBS
              clear HBS hbs hls hbe HW
              go_wp2
              go_quiet ((first | (go_at_call_of 72 (Value.int .i64 (p - q)); exact quiet_left (D1.out _)) | (go_at_call_of 72 (Value.int .i64 (r - s)); exact quiet_left (D2.out _))))
              by_cases hb1 : bs < 0
              · have HB2 : Hid (bestTo a lv l ((i : Int), (k : Int)) (j + 1) = ((j : Int), E)) := Lib.hid (by rw [HBN.out, if_pos (.inl hb1)])
                go_wp2
                go_roundw
                case rel => exact ⟨j + 1, by omega, by go_num, by rw [HB2.out], by rw [HB2.out], HO.out.drewN _, HG.out.drewN _, Below.drewN HB.out _⟩
                case measure => (simp [intOf]; omega)
              · by_cases hb2 : E < ls
                · have HB2 : Hid (bestTo a lv l ((i : Int), (k : Int)) (j + 1) = ((j : Int), E)) := Lib.hid (by rw [HBN.out, if_pos (.inr hb2)])
                  go_wp2
                  go_roundw
                  case rel => exact ⟨j + 1, by omega, by go_num, by rw [HB2.out], by rw [HB2.out], HO.out.drewN _, HG.out.drewN _, Below.drewN HB.out _⟩
                  case measure => (simp [intOf]; omega)
                · have HB2 : Hid (bestTo a lv l ((i : Int), (k : Int)) (j + 1) = (bs, ls)) := Lib.hid (by rw [HBN.out, if_neg (fun hh => hh.elim hb1 hb2)])
                  go_wp2
                  go_roundw
                  case rel => exact ⟨j + 1, by omega, by go_num, by rw [HB2.out], by rw [HB2.out], HO.out.drewN _, HG.out.drewN _, Below.drewN HB.out _⟩
                  case measure => (simp [intOf]; omega)
            · obtain rfl : j = k0 := by omega
              obtain ⟨jj, hjj⟩ : ∃ jj, j = jj + 1 := ⟨j - 1, by omega⟩
              obtain ⟨R, hR⟩ : ∃ R, nearTo a lv l ((i : Int), (k : Int)) j = R := ⟨_, rfl⟩
              have hRl : R < j := by have := nearTo_lt (a := a) (lv := lv) (u := ((i : Int), (k : Int))) (by rw [HLEN.out]; exact hk0) j (by rw [HLEN.out]; exact Nat.le_refl _); rw [hR, HLEN.out] at this; exact this
              have hbe : (bestTo a lv l ((i : Int), (k : Int)) j).1 = (R : Int) := by rw [← hR, hjj]; rfl
              rw [hbe]
              generalize (bestTo a lv l ((i : Int), (k : Int)) j).2 = ls
              obtain ⟨q, hq⟩ : ∃ q, i * m + k = q := ⟨_, rfl⟩
              have hqw : q < wn := by
                rw [HWN.out, ← hq]
                have : (i + 1) * m ≤ n * m := Nat.mul_le_mul_right _ hlt
                rw [Nat.succ_mul] at this
                omega
              have hqd : q / m = i := by rw [← hq, Nat.mul_comm, Nat.mul_add_div (by omega), Nat.div_eq_of_lt hlt2]; rfl
              have hqm : q % m = k := by rw [← hq, Nat.mul_comm, Nat.mul_add_mod, Nat.mod_eq_of_lt hlt2]
              obtain ⟨IM, hIM⟩ : ∃ IM, i * m = IM := ⟨_, rfl⟩
              have hw1 : IntKind.i64.wrap ((i : Int) * (m : Int)) = (IM : Int) := by
                have : (i : Int) * (m : Int) = (IM : Int) := by exact_mod_cast hIM
                rw [this]; exact IntWalk.i64_in _ (by omega)
              have hw2 : IntKind.i64.wrap ((IM : Int) + (k : Int)) = (q : Int) := by
                have : (IM : Int) + (k : Int) = (q : Int) := by omega
                rw [this]; exact IntWalk.i64_in _ (by omega)
              rw [hq] at ho
              obtain ⟨b, o, x, rfl, hbb, hx, c0⟩ := (HV0.out _ hb).at_ hqw
              obtain ⟨S, hS⟩ : ∃ S, sharesTo a lv l m j wind q = S := ⟨_, rfl⟩
              have hSl : S.length = j := by rw [← hS]; exact sharesTo_len q
              have hSb := HBD.out q R
              have hxb := HFB.out q
              rw [getD_of hx] at hxb
              obtain ⟨y, hy⟩ : ∃ y, S.getD R 0 = y := ⟨_, rfl⟩
              have HN : Hid (sharesTo a lv l m j wind (q + 1) = S.set R (y + x)) := Lib.hid (by simp only [sharesTo]; rw [hqd, hqm, hR, hS, hy, getD_of hx])
              rw [hS, hy] at hSb
              rw [hS] at ho
              have hsum : IntKind.i64.wrap (y + x) = y + x := IntWalk.i64_in _ (by omega)
              have hyc : wr.cell? ⟨w.heap.size + 1, R, none⟩ = some (.int .i64 y) := by
                rw [ho.cell R]
                have : (i64s S)[R]? = some (.int .i64 y) := by rw [i64s_get?, ← hy, List.getD_eq_getElem?_getD, List.getElem?_eq_getElem (by omega)]; rfl
                simpa using this
              have hyf := ho.frozen R
              have HO2 := Lib.hid ho
              have HQ : Hid (i * m + (k + 1) = q + 1) := Lib.hid (by omega)
              have hne2 : ¬ b = w.heap.size + 1 := by omega
              have hne3 : ¬ w.heap.size + 1 = b := by omega
              have z1 : (0 : Int) ≤ (R : Int) := by omega
              have z2 : (R : Int) < (j : Int) := by omega
              have z3 : (0 : Int) ≤ (q : Int) := by omega
              have z4 : (q : Int) < (wn : Int) := by omega
              clear hb ho hg hjj hR hbe hqd hqm hq hIM hx hS hSl hSb hxb hy
              go_wp2
              go_region
              all_goals go_wp2
              all_goals go_roundw
              case rel =>
                have hne : w.heap.size ≠ w.heap.size + 1 := by omega
                refine ⟨k + 1, by omega, by go_num, ?_, ?_, ?_⟩
                · rw [HQ.out, HN.out]
                  have e : (i64s (S.set R (y + x))).toArray = (i64s S).toArray.setIfInBounds R (.int .i64 (y + x)) := by simp [i64s, List.map_set]
                  rw [e]
                  exact HO2.out.set_ R (.int .i64 (y + x))
                · exact HG.out.other (by exact hne) _
                · have hb0 := HB.out
                  exact (by repeat (first | with_reducible exact Below.refl _ _ | with_reducible assumption | with_reducible refine Below.drew ?_ | with_reducible refine Below.drewN ?_ _ | with_reducible refine Below.alloc2 ?_ _ | with_reducible refine Below.alloc ?_ (by first | omega | (simp <;> omega)) _ | with_reducible refine Below.setCell ?_ (by first | omega | (simp <;> omega)) _ | with_reducible refine Below.step2 (by with_reducible assumption) ?_ | with_reducible refine Below.step (by with_reducible assumption) ?_ (by first | omega | (simp <;> omega))))
              case measure => (simp [intOf]; omega)
        · obtain rfl : k = m := by omega
          clear hb ho hg
          go_wp2
          go_roundw
          case rel => exact ⟨i + 1, by omega, by go_num, by rw [Nat.succ_mul]; exact HO.out, HG.out, HB.out⟩
          case measure => simp [intOf]; omega
    · obtain rfl : i = n := by omega
      have hN : Nums wr wr.heap.size (some ⟨w.heap.size + 1, 0, none⟩) k0 k0 (sharesTo a lv l m k0 wind wn) := by rw [HWN.out]; exact Nums.of_bk ho ho.lt (sharesTo_len _) (Nat.le_refl _) (by omega)
      have HN := Lib.hid hN
      clear hb ho hg hN
      go_wp2
      go_ret
      exact ⟨HB.out, _, rfl, HN.out⟩

end Go.Proofs.YtfnphhmcbdoojaaGreatDoor
