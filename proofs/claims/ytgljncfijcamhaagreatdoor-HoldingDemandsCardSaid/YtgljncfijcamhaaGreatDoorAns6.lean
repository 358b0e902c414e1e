/- Chapter 6, walks: the ties that meet a demand. -/
import Derived.Test.YtgljncfijcamhaaGreatDoorWant6
import Derived.Test.YtgljncfijcamhaaGreatDoorDist6
namespace Go.Proofs.YtgljncfijcamhaaGreatDoor
open Go.RowKit

theorem own_mono {w : World} {base base' e size n : Nat} {v : Value} {xs : List Value} (h : w.ownsRow base e size v n xs) (hb : base' ≤ base) : w.ownsRow base' e size v n xs :=
  ⟨h.1, h.2.imp id fun ⟨g, cap, cur, e1, hbg, rest⟩ => ⟨g, cap, cur, e1, Nat.le_trans hb hbg, rest⟩⟩
def ansIn (lv : List Int) (ev sk i h : Int) (t : Int × Int) : Bool := decide (0 < lv.getD t.2.toNat 0 - h) && (decide (lv.getD t.2.toNat 0 - h ≤ ev) && decide (absD t.1 i ≤ sk))
def ansTo (lv : List Int) (ev sk i h : Int) (l : List (Int × Int)) : Nat → List Int
  | 0 => []
  | k + 1 => if ansIn lv ev sk i h (l.getD k (0, 0)) then ansTo lv ev sk i h l k ++ [(k : Int)] else ansTo lv ev sk i h l k
theorem getDp_of {l : List (Int × Int)} {k : Nat} {x : Int × Int} (h : l[k]? = some x) : l.getD k (0, 0) = x := by rw [List.getD_eq_getElem?_getD, h]; rfl
section
variable {lv : List Int} {ev sk i h : Int} {l : List (Int × Int)} {k : Nat} {x : Int × Int}
theorem ansTo_yes (hx : l[k]? = some x) (hi : ansIn lv ev sk i h x = true) : ansTo lv ev sk i h l (k + 1) = ansTo lv ev sk i h l k ++ [(k : Int)] := by
  simp only [ansTo, getDp_of hx, hi, if_true]
theorem ansTo_no (hx : l[k]? = some x) (hi : ansIn lv ev sk i h x = false) : ansTo lv ev sk i h l (k + 1) = ansTo lv ev sk i h l k := by
  simp only [ansTo, getDp_of hx, hi, Bool.false_eq_true, if_false]
theorem ansTo_len : ∀ k, (ansTo lv ev sk i h l k).length ≤ k
  | 0 => by simp [ansTo]
  | k + 1 => by
    have := ansTo_len k
    simp only [ansTo]
    split
    · simp; omega
    · omega
end
set_option maxRecDepth 100000 in
set_option maxHeartbeats 8000000 in
theorem answers_any (f : Int) (A A2 T : Option Addr) (n c m c2 k0 ct : Nat) (ev fr sk ma st h : Int) (i : Nat) (lv : List Int) (l : List (Int × Int)) (w : World) (hl : Nums w w.heap.size A2 m c2 lv) (ht : Pts w w.heap.size T k0 ct l)
    (hn : n ≤ 60) (hk0 : k0 ≤ 1800) (hi : i ≤ 60) (hh1 : 0 ≤ h) (hh2 : h ≤ 1000000) (bl : allIn 1 1000000 lv = true) (hin : l.any (fun t => !tieIn n m t) = false) :
    Calls Tryz.prog 47 #[.agg #[.int .i64 f, .slice A n c, .slice A2 m c2], .agg #[.int .i64 ev, .int .i64 fr, .int .i64 sk, .int .i64 ma, .int .i64 st], .slice T k0 ct, .int .i64 (i : Int), .int .i64 h] w fun e w' => Below w.heap.size w w' ∧ ∃ v, e = .returned v ∧ w'.ownsRow w.heap.size 3 1 v (ansTo lv ev sk i h l k0).length (i64s (ansTo lv ev sk i h l k0)) := by
  have hcap := ht.cap
  have hmax := ht.max
  have hcapB := hl.cap
  have hmaxB := hl.max
  have HLEN := Lib.hid ht.len
  have HLEL := Lib.hid hl.len
  have H : Hid (∀ w', Below w.heap.size w w' → Pts w' w.heap.size T k0 ct l) := fun w' hb => ht.below hb (Nat.le_refl _) (Nat.le_refl _)
  have HL : Hid (∀ w', Below w.heap.size w w' → Nums w' w.heap.size A2 m c2 lv) := fun w' hb => hl.below hb (Nat.le_refl _) (Nat.le_refl _)
  have HIN : Hid (∀ t ∈ l, tieIn n m t = true) := Lib.hid fun t hx => by have := List.any_eq_false.1 hin t hx; simpa using this
  have HBL : Hid (∀ x ∈ lv, 1 ≤ x ∧ x ≤ 1000000) := Lib.hid fun x hx => by simpa using List.all_eq_true.1 bl x hx
  have HAL : Hid (∀ k, (ansTo lv ev sk i h l k).length ≤ k) := Lib.hid fun k => ansTo_len k
  obtain ⟨i0, hi0, hz0, hz1, hz2⟩ := info_parts info_intW
  have HI0 := Lib.hid hi0
  have HZ0 := Lib.hid hz0
  have HZ1 := Lib.hid hz1
  have HZ2 := Lib.hid hz2
  clear hi0 hz0 hz1 hz2 hl ht bl hin
  go_enter Tryz.func47, Tryz.ntmps47
  go_wp2
  go_loopw [11, 12, 13, 14, 17] (fun v _ _ _ x wr => ∃ k : Nat, k ≤ k0 ∧ x = .int .i64 k ∧ wr.ownsRow (w.heap.size + 2) 3 1 v (ansTo lv ev sk i h l k).length (i64s (ansTo lv ev sk i h l k)) ∧ Bk wr w.heap.size 24 #[.int .i64 f, .slice A n c, .slice A2 m c2] ∧ Bk wr (w.heap.size + 1) 26 #[.int .i64 ev, .int .i64 fr, .int .i64 sk, .int .i64 ma, .int .i64 st] ∧ Below w.heap.size w wr) (fun _ _ _ _ x _ => k0 - (intOf x).toNat)
  case atStart => exact ⟨0, Nat.zero_le _, rfl, World.ownsRow_nil _ _ _ _, (by repeat (first | with_reducible assumption | with_reducible exact Bk.at_ (by first | (simp; done) | omega) | with_reducible refine Bk.alloc ?_ _ | with_reducible refine Bk.drew ?_ | with_reducible refine Bk.drewN ?_ _ | with_reducible refine Bk.step (by with_reducible assumption) ?_ (by first | omega | (simp <;> omega)))), (by repeat (first | with_reducible assumption | with_reducible exact Bk.at_ (by first | (simp; done) | omega) | with_reducible refine Bk.alloc ?_ _ | with_reducible refine Bk.drew ?_ | with_reducible refine Bk.drewN ?_ _ | with_reducible refine Bk.step (by with_reducible assumption) ?_ (by first | omega | (simp <;> omega)))), (by repeat (first | with_reducible exact Below.refl _ _ | with_reducible assumption | with_reducible refine Below.drew ?_ | with_reducible refine Below.drewN ?_ _ | with_reducible refine Below.alloc2 ?_ _ | with_reducible refine Below.alloc ?_ (by first | omega | (simp <;> omega)) _ | with_reducible refine Below.setCell ?_ (by first | omega | (simp <;> omega)) _ | with_reducible refine Below.step2 (by with_reducible assumption) ?_ | with_reducible refine Below.step (by with_reducible assumption) ?_ (by first | omega | (simp <;> omega))))⟩
  case round =>
    obtain ⟨k, hk, rfl, hown, hbk, hbr, hb⟩ := hrel
    have HB := Lib.hid hb
    have HOWN := Lib.hid hown
    have HBK := Lib.hid hbk
    have HBR := Lib.hid hbr
    obtain ⟨⟨p0, p1, p2⟩, -⟩ := hbk.three
    obtain ⟨r0, r1, r2, r3, r4⟩ := hbr.five
    have ow := hb.size
    have og := hbk.lt
    have orr := hbr.lt
    have hal := HAL.out k
    clear hown hbk hbr
    by_cases hlt : k < k0
    · obtain ⟨b, o, ⟨x1, x2⟩, rfl, hbb, hx, c0, c1⟩ := (H.out _ hb).at_ hlt
      have htie := HIN.out _ (List.mem_of_getElem? hx)
      simp only [tieIn, Bool.and_eq_true, inR, decide_eq_true_eq] at htie
      dsimp only at c0 c1
      obtain ⟨X1, rfl⟩ : ∃ X : Nat, x1 = X := ⟨x1.toNat, by omega⟩
      obtain ⟨X2, rfl⟩ : ∃ X : Nat, x2 = X := ⟨x2.toNat, by omega⟩
      obtain ⟨d, v2, L, rfl, hd, hL, d0⟩ := (HL.out _ hb).at_ (k := X2) (by omega)
      have hLb := HBL.out L (List.mem_of_getElem? hL)
      have hw1 : IntKind.i64.wrap (L - h) = L - h := IntWalk.i64_in _ (by omega)
      have hdec : ansIn lv ev sk i h ((X1 : Int), (X2 : Int)) = (decide (0 < L - h) && (decide (L - h ≤ ev) && decide (absD X1 i ≤ sk))) := by
        simp only [ansIn, Int.toNat_natCast, getD_of hL]
      have HD := Lib.hid hdec
      have HX := Lib.hid hx
      have DD := Lib.hid (fun W => distance_any (X1 : Int) (i : Int) W (by omega) (by omega) (by omega) (by omega))
      generalize absD X1 i = D at DD hdec HD
      obtain ⟨S, hS⟩ : ∃ S, L - h = S := ⟨_, rfl⟩
      rw [hS] at hw1 HD hdec
      have od : d < wr.heap.size := by omega
      have z1 : (0 : Int) ≤ (X2 : Int) := by omega
      have z2 : (X2 : Int) < (m : Int) := by omega
      clear hb hx hL hLb htie hdec
      by_cases h1 : 0 < S
      · by_cases h2 : S ≤ ev
        · by_cases h3 : D ≤ sk
          · have HE := Lib.hid (ansTo_yes HX.out (HD.out.trans (by simp [h1, h2, h3])))
            clear HD
            go_wp2
            go_quiet (first | (go_at_call_of 86 (Value.int .i64 (X1 : Int)); exact quiet_left (DD.out _)))
            go_wp2_with (at_builtin; refine wpList_append_own_at _ rfl _ _ _ rfl (w.heap.size + 2) 3 i0 _ 1 8 Tryz.underlying22 HI0.out HZ0.out HZ1.out HZ2.out rfl (by omega) _ _ _ rfl ((HOWN.out.alloc _).alloc _) ⟨wr.heap.size + 1, 0, none⟩ 1 1 [.int .i64 (k : Int)] rfl rfl (World.news_of_block (cs := #[.int .i64 (k : Int)]) (t := 3) (fr := (0, 0)) (by have := heap_alloc_new ((wr.alloc (.cells #[.int .i64 (X1 : Int), .int .i64 (X2 : Int)] 91)).drewN nq) (.cells #[.int .i64 (k : Int)] 3); simpa using this)) (by intro u hu; simp at hu; subst hu; rfl) (by unfold maxLen; omega) (by omega) (by simp; omega) ?_; intro v1 w1 hown1 hg1 _ _; have HO1 := Lib.hid hown1; have HG1 := Lib.hid hg1; clear hown1 hg1)
            go_roundw
            case rel =>
              have hb0 := HB.out
              refine ⟨k + 1, by omega, by go_num, ?_, (HG1.out.block _ (by simp; omega) (fun e => by have := (HOWN.out.lt _ e.symm).1; omega)).trans (((HBK.out.alloc _).drewN _).alloc _), (HG1.out.block _ (by simp; omega) (fun e => by have := (HOWN.out.lt _ e.symm).1; omega)).trans (((HBR.out.alloc _).drewN _).alloc _), ?_⟩
              · have := HO1.out
                rw [HE.out]
                simpa [i64s] using this
              · have hbl : Below w.heap.size w ((wr.alloc (.cells #[.int .i64 (X1 : Int), .int .i64 (X2 : Int)] 91)).drewN nq) := (by repeat (first | with_reducible exact Below.refl _ _ | with_reducible assumption | with_reducible refine Below.drew ?_ | with_reducible refine Below.drewN ?_ _ | with_reducible refine Below.alloc2 ?_ _ | with_reducible refine Below.alloc ?_ (by first | omega | (simp <;> omega)) _ | with_reducible refine Below.setCell ?_ (by first | omega | (simp <;> omega)) _ | with_reducible refine Below.step2 (by with_reducible assumption) ?_ | with_reducible refine Below.step (by with_reducible assumption) ?_ (by first | omega | (simp <;> omega))))
                exact (Below.alloc hbl hbl.size _).grown HG1.out (by simp; omega) (fun q hq => by have := (HOWN.out.lt _ hq).1; omega)
            case measure => (simp [intOf]; omega)
          · have HE := Lib.hid (ansTo_no HX.out (HD.out.trans (by simp [h3])))
            have g3 : decide (D ≤ sk) = false := by simpa using h3
            have g4 : sk < D := by omega
            clear HD
            go_wp2
            go_quiet (first | (go_at_call_of 86 (Value.int .i64 (X1 : Int)); exact quiet_left (DD.out _)))
            go_wp2
            (go_roundw
             case rel =>
              have hb0 := HB.out
              exact ⟨k + 1, by omega, by go_num, by rw [HE.out]; exact HOWN.out.alloc _, (HBK.out.alloc _).drewN _, (HBR.out.alloc _).drewN _, (by repeat (first | with_reducible exact Below.refl _ _ | with_reducible assumption | with_reducible refine Below.drew ?_ | with_reducible refine Below.drewN ?_ _ | with_reducible refine Below.alloc2 ?_ _ | with_reducible refine Below.alloc ?_ (by first | omega | (simp <;> omega)) _ | with_reducible refine Below.setCell ?_ (by first | omega | (simp <;> omega)) _ | with_reducible refine Below.step2 (by with_reducible assumption) ?_ | with_reducible refine Below.step (by with_reducible assumption) ?_ (by first | omega | (simp <;> omega))))⟩
             case measure => (simp [intOf]; omega))
        · have HE := Lib.hid (ansTo_no HX.out (HD.out.trans (by simp [h2])))
          have g3 : decide (S ≤ ev) = false := by simpa using h2
          have g4 : ev < S := by omega
          clear HD
          go_wp2
          go_quiet (fail)
          go_wp2
          (go_roundw
           case rel =>
            have hb0 := HB.out
            exact ⟨k + 1, by omega, by go_num, by rw [HE.out]; exact HOWN.out.alloc _, (HBK.out.alloc _).drewN _, (HBR.out.alloc _).drewN _, (by repeat (first | with_reducible exact Below.refl _ _ | with_reducible assumption | with_reducible refine Below.drew ?_ | with_reducible refine Below.drewN ?_ _ | with_reducible refine Below.alloc2 ?_ _ | with_reducible refine Below.alloc ?_ (by first | omega | (simp <;> omega)) _ | with_reducible refine Below.setCell ?_ (by first | omega | (simp <;> omega)) _ | with_reducible refine Below.step2 (by with_reducible assumption) ?_ | with_reducible refine Below.step (by with_reducible assumption) ?_ (by first | omega | (simp <;> omega))))⟩
           case measure => (simp [intOf]; omega))
      · have HE := Lib.hid (ansTo_no HX.out (HD.out.trans (by simp [h1])))
        have g3 : decide (0 < S) = false := by simpa using h1
        have g4 : S ≤ 0 := by omega
        clear HD
        go_wp2
        go_quiet (fail)
        go_wp2
        (go_roundw
         case rel =>
          have hb0 := HB.out
          exact ⟨k + 1, by omega, by go_num, by rw [HE.out]; exact HOWN.out.alloc _, (HBK.out.alloc _).drewN _, (HBR.out.alloc _).drewN _, (by repeat (first | with_reducible exact Below.refl _ _ | with_reducible assumption | with_reducible refine Below.drew ?_ | with_reducible refine Below.drewN ?_ _ | with_reducible refine Below.alloc2 ?_ _ | with_reducible refine Below.alloc ?_ (by first | omega | (simp <;> omega)) _ | with_reducible refine Below.setCell ?_ (by first | omega | (simp <;> omega)) _ | with_reducible refine Below.step2 (by with_reducible assumption) ?_ | with_reducible refine Below.step (by with_reducible assumption) ?_ (by first | omega | (simp <;> omega))))⟩
         case measure => (simp [intOf]; omega))
    · obtain rfl : k = k0 := by omega
      clear hb
      go_wp2
      go_ret
      exact ⟨HB.out, _, rfl, own_mono HOWN.out (by omega)⟩

end Go.Proofs.YtgljncfijcamhaaGreatDoor
