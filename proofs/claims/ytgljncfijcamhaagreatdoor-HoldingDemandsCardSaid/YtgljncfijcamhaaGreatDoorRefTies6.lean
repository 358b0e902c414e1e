/- Chapter 6, walks: the reference's CheckTies. -/
import Derived.Test.YtgljncfijcamhaaGreatDoorTieErr6
import Derived.Deep.RegionWith
namespace Go.Proofs.YtgljncfijcamhaaGreatDoor
open Go.RowKit

theorem quiet_left {P : Program} {f : FuncId} {args : Array Value} {w : World} {n : Nat} {v : Value}
    (h : Calls P f args (w.drewN n) fun e w' => w.drewN n = w' ∧ e = .returned v) : Calls P f args (w.drewN n) fun e w'' => e = .returned v ∧ ∃ m, w'' = w.drewN m :=
  h.mono fun _ _ ⟨hm, he⟩ => ⟨he, n, hm.symm⟩
set_option maxHeartbeats 8000000 in
theorem refCheckTies_any (f : Int) (A A2 T : Option Addr) (n c m c2 k0 ct : Nat) (l : List (Int × Int)) (w : World) (hn : n ≤ c) (hc : c ≤ 9223372036854775807) (hm : m ≤ c2) (hc2 : c2 ≤ 9223372036854775807) (h : Pts w w.heap.size T k0 ct l) :
    Calls Tryz.prog 49 #[.agg #[.int .i64 f, .slice A n c, .slice A2 m c2], .slice T k0 ct] w fun e w' => Below w.heap.size w w' ∧ e = .returned (.int .i64 (tiesErr n m l)) := by
  have hcap := h.cap
  have hmax := h.max
  have HLEN := Lib.hid h.len
  have H : Hid (∀ w', Below w.heap.size w w' → Pts w' w.heap.size T k0 ct l) := fun w' hb => h.below hb (Nat.le_refl _) (Nat.le_refl _)
  have hw1 : IntKind.i64.wrap ((n : Int) - 1) = (n : Int) - 1 := IntWalk.i64_in _ (by omega)
  have hw2 : IntKind.i64.wrap ((m : Int) - 1) = (m : Int) - 1 := IntWalk.i64_in _ (by omega)
  unfold tiesErr
  obtain ⟨v1, e1⟩ : ∃ v, l.any (fun t => !tieIn n m t) = v := ⟨_, rfl⟩
  obtain ⟨v2, e2⟩ : ∃ v, ascT l = v := ⟨_, rfl⟩
  rw [e1, e2, HLEN.out]
  have V1 := Lib.hid e1
  have V2 := Lib.hid e2
  clear e1 e2 h
  by_cases hk : 1800 < k0
  · have hki : (1800 : Int) < (k0 : Int) := by omega
    rw [if_pos hk]
    clear hk
    go_enter Tryz.func49, Tryz.ntmps49
    go_wp2
    go_ret
    exact ⟨(by repeat (first | with_reducible exact Below.refl _ _ | with_reducible assumption | with_reducible refine Below.drew ?_ | with_reducible refine Below.drewN ?_ _ | with_reducible refine Below.alloc2 ?_ _ | with_reducible refine Below.alloc ?_ (by first | omega | (simp <;> omega)) _ | with_reducible refine Below.setCell ?_ (by first | omega | (simp <;> omega)) _ | with_reducible refine Below.step2 (by with_reducible assumption) ?_ | with_reducible refine Below.step (by with_reducible assumption) ?_ (by first | omega | (simp <;> omega)))), rfl⟩
  have hki : ¬ (1800 : Int) < (k0 : Int) := by omega
  rw [if_neg hk]
  clear hk
  obtain ⟨E, hE⟩ : ∃ E, (if v1 = true then 6 else if v2 = true then (0 : Int) else 10) = E := ⟨_, rfl⟩
  rw [hE]
  have HE := Lib.hid hE
  clear hE
  go_enter Tryz.func49, Tryz.ntmps49
  go_wp2
  go_loopw [5] (fun i wr => ∃ k : Nat, k ≤ k0 ∧ i = .int .i64 k ∧ Hid ((l.take k).any (fun t => !tieIn n m t) = false) ∧ Below w.heap.size w wr ∧ Bk wr w.heap.size 24 #[.int .i64 f, .slice A n c, .slice A2 m c2]) (fun i _ => k0 - (intOf i).toNat)
  case atStart => exact ⟨0, Nat.zero_le _, rfl, Lib.hid rfl, (by repeat (first | with_reducible exact Below.refl _ _ | with_reducible assumption | with_reducible refine Below.drew ?_ | with_reducible refine Below.drewN ?_ _ | with_reducible refine Below.alloc2 ?_ _ | with_reducible refine Below.alloc ?_ (by first | omega | (simp <;> omega)) _ | with_reducible refine Below.setCell ?_ (by first | omega | (simp <;> omega)) _ | with_reducible refine Below.step2 (by with_reducible assumption) ?_ | with_reducible refine Below.step (by with_reducible assumption) ?_ (by first | omega | (simp <;> omega)))), (by repeat (first | with_reducible assumption | with_reducible exact Bk.at_ (by first | (simp; done) | omega) | with_reducible refine Bk.alloc ?_ _ | with_reducible refine Bk.drew ?_ | with_reducible refine Bk.drewN ?_ _ | with_reducible refine Bk.step (by with_reducible assumption) ?_ (by first | omega | (simp <;> omega))))⟩
  case round =>
    obtain ⟨k, hk, rfl, hall, hb, hbk⟩ := hrel
    have HB := Lib.hid hb
    have HBK := Lib.hid hbk
    obtain ⟨⟨r0, r1, r2⟩, -⟩ := hbk.three
    have og := hbk.lt
    by_cases hlt : k < k0
    · obtain ⟨b, o, ⟨x, y⟩, rfl, hbb, hx, c0, c1⟩ := (H.out _ hb).at_ hlt
      dsimp only at c0 c1
      have HX := Lib.hid hx
      have z1 : (0 : Int) ≤ (k : Int) := by omega
      have z2 : (k : Int) < (k0 : Int) := by omega
      clear hx hb hbk
      obtain ⟨b1, e1⟩ : ∃ v, inR 0 ((n : Int) - 1) x = v := ⟨_, rfl⟩
      obtain ⟨b2, e2⟩ : ∃ v, inR 0 ((m : Int) - 1) y = v := ⟨_, rfl⟩
      have E1 := Lib.hid (within_b e1)
      have E2 := Lib.hid (within_b e2)
      have HT : Hid (tieIn n m (x, y) = (b1 && b2)) := Lib.hid (by simp only [tieIn, e1, e2])
      clear e1 e2
      by_cases hbb12 : (b1 && b2) = true
      · obtain ⟨rfl, rfl⟩ : b1 = true ∧ b2 = true := by simpa using hbb12
        clear hbb12
        go_wp2
        go_quiet ((first | (go_at_call_of 24 (Value.int .i64 x); exact quiet_left (E1.out _)) | (go_at_call_of 24 (Value.int .i64 y); exact quiet_left (E2.out _))))
        go_wp2
        go_roundw
        case rel =>
          have hb0 := HB.out
          exact ⟨k + 1, by omega, by go_num, Lib.hid (any_snoc' HX.out hall.out (by rw [HT.out]; rfl)), (by repeat (first | with_reducible exact Below.refl _ _ | with_reducible assumption | with_reducible refine Below.drew ?_ | with_reducible refine Below.drewN ?_ _ | with_reducible refine Below.alloc2 ?_ _ | with_reducible refine Below.alloc ?_ (by first | omega | (simp <;> omega)) _ | with_reducible refine Below.setCell ?_ (by first | omega | (simp <;> omega)) _ | with_reducible refine Below.step2 (by with_reducible assumption) ?_ | with_reducible refine Below.step (by with_reducible assumption) ?_ (by first | omega | (simp <;> omega)))), HBK.out.drewN _⟩
        case measure => simp [intOf]; omega
      · have hv1 : v1 = true := by
          rw [← V1.out]
          exact List.any_eq_true.2 ⟨(x, y), List.mem_of_getElem? HX.out, by rw [HT.out]; cases b1 <;> cases b2 <;> first | rfl | exact absurd rfl hbb12⟩
        have HEE : Hid (E = 6) := Lib.hid (by rw [← HE.out, hv1]; rfl)
        clear hv1
        cases b1
        · clear hbb12
          go_wp2
          go_quiet ((first | (go_at_call_of 24 (Value.int .i64 x); exact quiet_left (E1.out _)) | (go_at_call_of 24 (Value.int .i64 y); exact quiet_left (E2.out _))))
          go_wp2
          go_ret
          have hb0 := HB.out
          exact ⟨(by repeat (first | with_reducible exact Below.refl _ _ | with_reducible assumption | with_reducible refine Below.drew ?_ | with_reducible refine Below.drewN ?_ _ | with_reducible refine Below.alloc2 ?_ _ | with_reducible refine Below.alloc ?_ (by first | omega | (simp <;> omega)) _ | with_reducible refine Below.setCell ?_ (by first | omega | (simp <;> omega)) _ | with_reducible refine Below.step2 (by with_reducible assumption) ?_ | with_reducible refine Below.step (by with_reducible assumption) ?_ (by first | omega | (simp <;> omega)))), ret_int HEE.out.symm⟩
        · cases b2
          · clear hbb12
            go_wp2
            go_quiet ((first | (go_at_call_of 24 (Value.int .i64 x); exact quiet_left (E1.out _)) | (go_at_call_of 24 (Value.int .i64 y); exact quiet_left (E2.out _))))
            go_wp2
            go_ret
            have hb0 := HB.out
            exact ⟨(by repeat (first | with_reducible exact Below.refl _ _ | with_reducible assumption | with_reducible refine Below.drew ?_ | with_reducible refine Below.drewN ?_ _ | with_reducible refine Below.alloc2 ?_ _ | with_reducible refine Below.alloc ?_ (by first | omega | (simp <;> omega)) _ | with_reducible refine Below.setCell ?_ (by first | omega | (simp <;> omega)) _ | with_reducible refine Below.step2 (by with_reducible assumption) ?_ | with_reducible refine Below.step (by with_reducible assumption) ?_ (by first | omega | (simp <;> omega)))), ret_int HEE.out.symm⟩
          · exact absurd rfl hbb12
    · have hv1 : v1 = false := by
        rw [← V1.out]
        have := hall.out
        rwa [List.take_of_length_le (by rw [HLEN.out]; omega)] at this
      subst hv1
      have HE2 : Hid ((if v2 = true then (0 : Int) else 10) = E) := Lib.hid (by rw [← HE.out]; rfl)
      clear hb hbk
      go_wp2
      go_loopw [6] (fun i wr => ∃ k : Nat, (k + 1 ≤ k0 ∨ k = 0) ∧ i = .int .i64 ((k + 1 : Nat) : Int) ∧ Hid (∀ j, j < k → bef (l.getD j (0, 0)) (l.getD (j + 1) (0, 0)) = true) ∧ Below w.heap.size w wr) (fun i _ => k0 - (intOf i).toNat)
      case atStart => exact ⟨0, .inr rfl, rfl, (fun j hj => absurd hj (Nat.not_lt_zero _) : ∀ j, j < 0 → bef (l.getD j (0, 0)) (l.getD (j + 1) (0, 0)) = true), HB.out⟩
      case round =>
        obtain ⟨k, hk, rfl, hall, hb⟩ := hrel
        by_cases hlt : k + 1 < k0
        · obtain ⟨b, o, ⟨x, x2⟩, rfl, hbb, hx, c0, c1⟩ := (H.out _ hb).at_ (show k < k0 by omega)
          obtain ⟨b', o', ⟨y, y2⟩, e, hbb', hy, d0, d1⟩ := (H.out _ hb).at_ hlt
          obtain ⟨rfl, rfl⟩ : b = b' ∧ o = o' := by simpa using e
          dsimp only at c0 c1 d0 d1
          have HC : Hid (∀ w', Below w.heap.size w w' → w'.cell? ⟨b, o + k * 2, none⟩ = some (.int .i64 x) ∧ w'.cell? ⟨b, o + k * 2 + 1, none⟩ = some (.int .i64 x2) ∧ w'.cell? ⟨b, o + (k + 1) * 2, none⟩ = some (.int .i64 y) ∧ w'.cell? ⟨b, o + (k + 1) * 2 + 1, none⟩ = some (.int .i64 y2)) := Lib.hid fun w' hb' =>
            have hk' := fun o' => ((bcell hb').1 b o' hbb).trans ((bcell hb).1 b o' hbb).symm
            ⟨(hk' _).trans c0, (hk' _).trans c1, (hk' _).trans d0, (hk' _).trans d1⟩
          have hw4 : IntKind.i64.wrap (((k + 1 : Nat) : Int) - 1) = (k : Int) := by rw [IntWalk.i64_in _ (by omega)]; omega
          have hw5 : IntKind.i64.wrap (((k : Nat) : Int) + 1 - 1) = (k : Int) := by rw [IntWalk.i64_in _ (by omega)]; omega
          have hw3 : IntKind.i64.wrap ((k : Nat) : Int) = (k : Int) := IntWalk.i64_in _ (by omega)
          have HX := Lib.hid (getT_of hx)
          have HY := Lib.hid (getT_of hy)
          have HB := Lib.hid hb
          have ow := hb.size
          have ob : b < wr.heap.size := by omega
          have z1 : (0 : Int) ≤ (k : Int) := by omega
          have z2 : (k : Int) < (k0 : Int) := by omega
          have z3 : (0 : Int) ≤ (k : Int) + 1 := by omega
          have z4 : (k : Int) + 1 < (k0 : Int) := by omega
          clear hb e hx hy hbb'
          rcases hbf : bef (x, x2) (y, y2)
          · have hc := Lib.hid (fun W => (before_any x x2 y y2 W))
            rw [hbf] at hc
            have HBF := Lib.hid hbf
            clear hbf
            go_wp2
            go_region_held3 (fun w' => (w'.cell? ⟨b, o + k * 2, none⟩ = some (.int .i64 x) ∧ w'.cell? ⟨b, o + k * 2 + 1, none⟩ = some (.int .i64 x2)) ∧ w'.cell? ⟨b, o + (k + 1) * 2, none⟩ = some (.int .i64 y) ∧ w'.cell? ⟨b, o + (k + 1) * 2 + 1, none⟩ = some (.int .i64 y2)) (go_keep) ((go_at_call 87; refine (hc.out _).mono ?_; rintro e w1 ⟨hb1, rfl⟩; have HB1 : Hid (Below w.heap.size w w1) := Lib.hid (by have hb := HB.out; exact (by repeat (first | with_reducible exact Below.refl _ _ | with_reducible assumption | with_reducible refine Below.drew ?_ | with_reducible refine Below.drewN ?_ _ | with_reducible refine Below.alloc2 ?_ _ | with_reducible refine Below.alloc ?_ (by first | omega | (simp <;> omega)) _ | with_reducible refine Below.setCell ?_ (by first | omega | (simp <;> omega)) _ | with_reducible refine Below.step2 (by with_reducible assumption) ?_ | with_reducible refine Below.step (by with_reducible assumption) ?_ (by first | omega | (simp <;> omega))))); obtain ⟨u0, u1, u2, u3⟩ := HC.out _ HB1.out; clear hb1))
            go_wp2
            go_ret
            exact ⟨HB1.out, ret_int (by rw [← HE2.out, ← V2.out, ascT_not (j := k) (by rw [HLEN.out]; omega) (by rw [HX.out, HY.out]; exact HBF.out)]; rfl)⟩
          · have hc := Lib.hid (fun W => (before_any x x2 y y2 W))
            rw [hbf] at hc
            have HBF := Lib.hid hbf
            clear hbf
            go_wp2
            go_region_held3 (fun w' => (w'.cell? ⟨b, o + k * 2, none⟩ = some (.int .i64 x) ∧ w'.cell? ⟨b, o + k * 2 + 1, none⟩ = some (.int .i64 x2)) ∧ w'.cell? ⟨b, o + (k + 1) * 2, none⟩ = some (.int .i64 y) ∧ w'.cell? ⟨b, o + (k + 1) * 2 + 1, none⟩ = some (.int .i64 y2)) (go_keep) ((go_at_call 87; refine (hc.out _).mono ?_; rintro e w1 ⟨hb1, rfl⟩; have HB1 : Hid (Below w.heap.size w w1) := Lib.hid (by have hb := HB.out; exact (by repeat (first | with_reducible exact Below.refl _ _ | with_reducible assumption | with_reducible refine Below.drew ?_ | with_reducible refine Below.drewN ?_ _ | with_reducible refine Below.alloc2 ?_ _ | with_reducible refine Below.alloc ?_ (by first | omega | (simp <;> omega)) _ | with_reducible refine Below.setCell ?_ (by first | omega | (simp <;> omega)) _ | with_reducible refine Below.step2 (by with_reducible assumption) ?_ | with_reducible refine Below.step (by with_reducible assumption) ?_ (by first | omega | (simp <;> omega))))); obtain ⟨u0, u1, u2, u3⟩ := HC.out _ HB1.out; clear hb1))
            go_wp2
            go_roundw
            case rel =>
              refine ⟨k + 1, .inl (by omega), by go_num, (fun j hj => ?_ : ∀ j, j < k + 1 → bef (l.getD j (0, 0)) (l.getD (j + 1) (0, 0)) = true), HB1.out⟩
              rcases Nat.lt_or_ge j k with hj' | hj'
              · exact hall.out j hj'
              · obtain rfl : j = k := by omega
                rw [HX.out, HY.out]
                exact HBF.out
            case measure => simp [intOf]; omega
        · have HB := Lib.hid hb
          clear hb
          go_wp2
          go_ret
          exact ⟨HB.out, ret_int (by rw [← HE2.out, ← V2.out, ascT_iff.2 (fun j hj => hall.out j (by rw [HLEN.out] at hj; omega))]; rfl)⟩

end Go.Proofs.YtgljncfijcamhaaGreatDoor
