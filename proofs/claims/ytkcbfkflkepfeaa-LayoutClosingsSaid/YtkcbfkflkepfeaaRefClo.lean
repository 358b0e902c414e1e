/- Walks of the reference: ClosingErr, CheckClosing. -/
import Derived.Test.YtkcbfkflkepfeaaLenOf
namespace Go.Proofs.Ytkcbfkflkepfeaa
open Go.RowKit

theorem clo6 {s : Sys} {lb lo : List Int} (h : ¬(4000 < lb.length ∨ 4000 < lo.length)) (h2 : ((lb.all fun z => s.bays.contains z) && (lo.all fun z => s.boards.contains z)) = false) : s.cloErr lb lo = 6 := by unfold Sys.cloErr; rw [if_neg h, if_pos h2]
theorem clo10 {s : Sys} {lb lo : List Int} (h : ¬(4000 < lb.length ∨ 4000 < lo.length)) (h2 : ((lb.all fun z => s.bays.contains z) && (lo.all fun z => s.boards.contains z)) = true) (h3 : (fall lb && fall lo) = false) : s.cloErr lb lo = 10 := by unfold Sys.cloErr; rw [if_neg h, if_neg (by rw [h2]; simp), if_pos h3]
theorem clo0 {s : Sys} {lb lo : List Int} (h : ¬(4000 < lb.length ∨ 4000 < lo.length)) (h2 : ((lb.all fun z => s.bays.contains z) && (lo.all fun z => s.boards.contains z)) = true) (h3 : (fall lb && fall lo) = true) : s.cloErr lb lo = 0 := by unfold Sys.cloErr; rw [if_neg h, if_neg (by rw [h2]; simp), if_neg (by rw [h3]; simp)]
theorem has_lit (A : Option Addr) (n c : Nat) (l : List Int) (x : Int) (r : Bool) (w : World) (h : Nums w w.heap.size A n c l) (hr : l.contains x = r) :
    Calls Try.prog 41 #[.slice A n c, .int .i64 x] w fun e w' => w = w' ∧ e = .returned (.bool r) := by
  rw [← hr]
  exact has_any A n c l x w h

set_option maxRecDepth 100000 in
set_option maxHeartbeats 8000000 in
theorem refClo_any (A A2 : Option Addr) (n c n2 c2 : Nat) (s : Sys) (w : World) (h : SysAt w w.heap.size A n c A2 n2 c2 s) (B B2 : Option Addr) (m d m2 d2 : Nat) (lb lo : List Int) (hc : CloAt w w.heap.size B m d B2 m2 d2 lb lo) :
    Calls Try.prog 17 #[.agg #[.slice A n c, .slice A2 n2 c2, .int .i64 s.width, .int .i64 s.gap, .int .i64 s.lift], .agg #[.slice B m d, .slice B2 m2 d2]] w fun e w' => Below w.heap.size w w' ∧ e = .returned (.int .i64 (s.cloErr lb lo)) := by
  have hcapA := h.a.nums.cap; have hmaxA := h.a.nums.max; have hcapB := h.b.nums.cap; have hmaxB := h.b.nums.max; have HLA := Lib.hid h.a.nums.len; have HLB := Lib.hid h.b.nums.len; have H : Hid (∀ w', Below w.heap.size w w' → SysAt w' w.heap.size A n c A2 n2 c2 s) := fun w' hb => h.below hb (Nat.le_refl _) (Nat.le_refl _); have HS : Hid (∀ w', Below w.heap.size w w' → SysAt w' w'.heap.size A n c A2 n2 c2 s) := fun w' hb => h.below hb (Nat.le_refl _) hb.size; clear h
  have hcapC := hc.a.nums.cap
  have hmaxC := hc.a.nums.max
  have hcapD := hc.b.nums.cap
  have hmaxD := hc.b.nums.max
  have HLC := Lib.hid hc.a.nums.len
  have HLD := Lib.hid hc.b.nums.len
  have HCL : Hid (∀ w', Below w.heap.size w w' → CloAt w' w.heap.size B m d B2 m2 d2 lb lo) := fun w' hb => hc.below hb (Nat.le_refl _) (Nat.le_refl _)
  have HCLS : Hid (∀ w', Below w.heap.size w w' → CloAt w' w'.heap.size B m d B2 m2 d2 lb lo) := fun w' hb => hc.below hb (Nat.le_refl _) hb.size
  clear hc
  by_cases h1 : 4000 < m
  · have he : s.cloErr lb lo = 8 := by unfold Sys.cloErr; rw [if_pos (by rw [HLC.out]; exact .inl h1)]
    rw [he]
    clear he
    go_enter Try.func17, Try.ntmps17
    go_wp2
    go_ret
    exact ⟨(by repeat (first | with_reducible exact Below.refl _ _ | with_reducible assumption | with_reducible refine Below.drew ?_ | with_reducible refine Below.drewN ?_ _ | with_reducible refine Below.alloc2 ?_ _ | with_reducible refine Below.alloc ?_ (by first | omega | (simp <;> omega)) _ | with_reducible refine Below.setCell ?_ (by first | omega | (simp <;> omega)) _ | with_reducible refine Below.step2 (by with_reducible assumption) ?_ | with_reducible refine Below.step (by with_reducible assumption) ?_ (by first | omega | (simp <;> omega)))), rfl⟩
  by_cases h2 : 4000 < m2
  · have he : s.cloErr lb lo = 8 := by unfold Sys.cloErr; rw [if_pos (by rw [HLD.out]; exact .inr h2)]
    rw [he]
    clear he
    go_enter Try.func17, Try.ntmps17
    go_wp2
    go_ret
    exact ⟨(by repeat (first | with_reducible exact Below.refl _ _ | with_reducible assumption | with_reducible refine Below.drew ?_ | with_reducible refine Below.drewN ?_ _ | with_reducible refine Below.alloc2 ?_ _ | with_reducible refine Below.alloc ?_ (by first | omega | (simp <;> omega)) _ | with_reducible refine Below.setCell ?_ (by first | omega | (simp <;> omega)) _ | with_reducible refine Below.step2 (by with_reducible assumption) ?_ | with_reducible refine Below.step (by with_reducible assumption) ?_ (by first | omega | (simp <;> omega)))), rfl⟩
  have HSM := Lib.hid (show ¬(4000 < lb.length ∨ 4000 < lo.length) by rw [HLC.out, HLD.out]; omega)
  go_enter Try.func17, Try.ntmps17
  go_wp2
  have HS0 : Hid (Bk ((w.alloc (.cells #[.slice A n c, .slice A2 n2 c2, .int .i64 s.width, .int .i64 s.gap, .int .i64 s.lift] 24)).alloc (.cells #[.slice B m d, .slice B2 m2 d2] 26)) w.heap.size 24 #[.slice A n c, .slice A2 n2 c2, .int .i64 s.width, .int .i64 s.gap, .int .i64 s.lift]) := Lib.hid (by exact (by repeat (first | with_reducible assumption | with_reducible exact Bk.at_ (by first | (simp; done) | omega) | with_reducible refine Bk.alloc ?_ _ | with_reducible refine Bk.drew ?_ | with_reducible refine Bk.drewN ?_ _ | with_reducible refine Bk.step (by with_reducible assumption) ?_ (by first | omega | (simp <;> omega)))))
  have HC0 : Hid (Bk ((w.alloc (.cells #[.slice A n c, .slice A2 n2 c2, .int .i64 s.width, .int .i64 s.gap, .int .i64 s.lift] 24)).alloc (.cells #[.slice B m d, .slice B2 m2 d2] 26)) (w.heap.size + 1) 26 #[.slice B m d, .slice B2 m2 d2]) := Lib.hid (by exact (by repeat (first | with_reducible assumption | with_reducible exact Bk.at_ (by first | (simp; done) | omega) | with_reducible refine Bk.alloc ?_ _ | with_reducible refine Bk.drew ?_ | with_reducible refine Bk.drewN ?_ _ | with_reducible refine Bk.step (by with_reducible assumption) ?_ (by first | omega | (simp <;> omega)))))
  go_loopw [5] (fun i wr => ∃ k : Nat, k ≤ m ∧ i = .int .i64 k ∧ Hid (((lb.take k).all fun z => s.bays.contains z) = true) ∧ Bk wr w.heap.size 24 #[.slice A n c, .slice A2 n2 c2, .int .i64 s.width, .int .i64 s.gap, .int .i64 s.lift] ∧ Bk wr (w.heap.size + 1) 26 #[.slice B m d, .slice B2 m2 d2] ∧ Below w.heap.size w wr) (fun i _ => m - (intOf i).toNat)
  case atStart => exact ⟨0, Nat.zero_le _, rfl, Lib.hid (by rw [List.take_zero]; rfl), HS0.out, HC0.out, Below.alloc2 (Below.alloc2 (Below.refl _ _) _) _⟩
  case round =>
    obtain ⟨k, hk, rfl, hall, hbs, hbc, hb⟩ := hrel
    have HBS := Lib.hid hbs
    have HBC := Lib.hid hbc
    have HB := Lib.hid hb
    obtain ⟨⟨a0, a1, a2, a3, a4⟩, -⟩ := hbs.five
    obtain ⟨e0, e1⟩ := hbc.pair
    have os := hbs.lt
    have oc := hbc.lt
    have ow := hb.size
    by_cases hlt : k < m
    · obtain ⟨b, o, x, rfl, hbb, hx, d0⟩ := (HCL.out _ hb).a.nums.at_ hlt
      have HX := Lib.hid hx
      have ob : b < wr.heap.size := by omega
      clear hx hb hbs hbc hbb
      rcases hcx : s.bays.contains x
      · have HHA := Lib.hid (fun (W : World) (hW : Below w.heap.size w W) => has_lit _ _ _ _ x false W (HS.out W hW).a.nums hcx)
        have HE := Lib.hid (clo6 HSM.out (by skip; rw [Bool.and_eq_false_iff]; left; rw [List.all_eq_false]; exact ⟨x, List.mem_of_getElem? HX.out, by rw [hcx]; simp⟩))
        go_wp2
        go_region_held3 (fun w' => w'.cell? ⟨w.heap.size, 0, none⟩ = some (.slice A n c) ∧ w'.cell? ⟨w.heap.size + 1, 0, none⟩ = some (.slice (some ⟨b, o, none⟩) m d) ∧ w'.cell? ⟨b, o + k, none⟩ = some (.int .i64 x)) (go_keep) (first | (go_at_call 41; refine (HHA.out _ (by have hb0 := HB.out; exact (by repeat (first | with_reducible exact Below.refl _ _ | with_reducible assumption | with_reducible refine Below.drew ?_ | with_reducible refine Below.drewN ?_ _ | with_reducible refine Below.alloc2 ?_ _ | with_reducible refine Below.alloc ?_ (by first | omega | (simp <;> omega)) _ | with_reducible refine Below.setCell ?_ (by first | omega | (simp <;> omega)) _ | with_reducible refine Below.step2 (by with_reducible assumption) ?_ | with_reducible refine Below.step (by with_reducible assumption) ?_ (by first | omega | (simp <;> omega)))))).mono ?_; rintro e w' ⟨rfl, rfl⟩))
        go_wp2
        go_ret
        have hb := HB.out
        exact ⟨(by repeat (first | with_reducible exact Below.refl _ _ | with_reducible assumption | with_reducible refine Below.drew ?_ | with_reducible refine Below.drewN ?_ _ | with_reducible refine Below.alloc2 ?_ _ | with_reducible refine Below.alloc ?_ (by first | omega | (simp <;> omega)) _ | with_reducible refine Below.setCell ?_ (by first | omega | (simp <;> omega)) _ | with_reducible refine Below.step2 (by with_reducible assumption) ?_ | with_reducible refine Below.step (by with_reducible assumption) ?_ (by first | omega | (simp <;> omega)))), ret_int HE.out.symm⟩
      · have HHA := Lib.hid (fun (W : World) (hW : Below w.heap.size w W) => has_lit _ _ _ _ x true W (HS.out W hW).a.nums hcx)
        have HCX := Lib.hid hcx
        go_wp2
        go_region_held3 (fun w' => w'.cell? ⟨w.heap.size, 0, none⟩ = some (.slice A n c) ∧ w'.cell? ⟨w.heap.size + 1, 0, none⟩ = some (.slice (some ⟨b, o, none⟩) m d) ∧ w'.cell? ⟨b, o + k, none⟩ = some (.int .i64 x)) (go_keep) (first | (go_at_call 41; refine (HHA.out _ (by have hb0 := HB.out; exact (by repeat (first | with_reducible exact Below.refl _ _ | with_reducible assumption | with_reducible refine Below.drew ?_ | with_reducible refine Below.drewN ?_ _ | with_reducible refine Below.alloc2 ?_ _ | with_reducible refine Below.alloc ?_ (by first | omega | (simp <;> omega)) _ | with_reducible refine Below.setCell ?_ (by first | omega | (simp <;> omega)) _ | with_reducible refine Below.step2 (by with_reducible assumption) ?_ | with_reducible refine Below.step (by with_reducible assumption) ?_ (by first | omega | (simp <;> omega)))))).mono ?_; rintro e w' ⟨rfl, rfl⟩))
        go_wp2
        go_roundw
        case rel =>
          have hb := HB.out
          have hbs := HBS.out
          have hbc := HBC.out
          refine ⟨k + 1, by omega, by go_num, Lib.hid ?_, hbs, hbc, (by repeat (first | with_reducible exact Below.refl _ _ | with_reducible assumption | with_reducible refine Below.drew ?_ | with_reducible refine Below.drewN ?_ _ | with_reducible refine Below.alloc2 ?_ _ | with_reducible refine Below.alloc ?_ (by first | omega | (simp <;> omega)) _ | with_reducible refine Below.setCell ?_ (by first | omega | (simp <;> omega)) _ | with_reducible refine Below.step2 (by with_reducible assumption) ?_ | with_reducible refine Below.step (by with_reducible assumption) ?_ (by first | omega | (simp <;> omega))))⟩
          obtain ⟨hk', e⟩ := List.getElem?_eq_some_iff.1 HX.out
          rw [List.take_succ_eq_append_getElem hk', List.all_append, hall.out, e]
          simpa using HCX.out
        case measure => simp [intOf]; omega
    · have e : m = k := by omega
      subst e
      clear hb hbs hbc
      have HCA : Hid ((lb.all fun z => s.bays.contains z) = true) := Lib.hid (by have := hall.out; rwa [List.take_of_length_le (by rw [HLC.out]; exact Nat.le_refl _)] at this)
      have HB1 := HB
      have HBS1 := HBS
      have HBC1 := HBC
      clear HB HBS HBC hall hk
      go_wp2
      go_loopw [6] (fun i wr => ∃ k : Nat, k ≤ m2 ∧ i = .int .i64 k ∧ Hid (((lo.take k).all fun z => s.boards.contains z) = true) ∧ Bk wr w.heap.size 24 #[.slice A n c, .slice A2 n2 c2, .int .i64 s.width, .int .i64 s.gap, .int .i64 s.lift] ∧ Bk wr (w.heap.size + 1) 26 #[.slice B m d, .slice B2 m2 d2] ∧ Below w.heap.size w wr) (fun i _ => m2 - (intOf i).toNat)
      case atStart => exact ⟨0, Nat.zero_le _, rfl, Lib.hid (by rw [List.take_zero]; rfl), HBS1.out, HBC1.out, HB1.out⟩
      case round =>
        obtain ⟨k, hk, rfl, hall, hbs, hbc, hb⟩ := hrel
        have HBS := Lib.hid hbs
        have HBC := Lib.hid hbc
        have HB := Lib.hid hb
        obtain ⟨⟨a0, a1, a2, a3, a4⟩, -⟩ := hbs.five
        obtain ⟨e0, e1⟩ := hbc.pair
        have os := hbs.lt
        have oc := hbc.lt
        have ow := hb.size
        by_cases hlt : k < m2
        · obtain ⟨b, o, x, rfl, hbb, hx, d0⟩ := (HCL.out _ hb).b.nums.at_ hlt
          have HX := Lib.hid hx
          have ob : b < wr.heap.size := by omega
          clear hx hb hbs hbc hbb
          rcases hcx : s.boards.contains x
          · have HHA := Lib.hid (fun (W : World) (hW : Below w.heap.size w W) => has_lit _ _ _ _ x false W (HS.out W hW).b.nums hcx)
            have HE := Lib.hid (clo6 HSM.out (by skip; rw [Bool.and_eq_false_iff]; right; rw [List.all_eq_false]; exact ⟨x, List.mem_of_getElem? HX.out, by rw [hcx]; simp⟩))
            go_wp2
            go_region_held3 (fun w' => w'.cell? ⟨w.heap.size, 1, none⟩ = some (.slice A2 n2 c2) ∧ w'.cell? ⟨w.heap.size + 1, 1, none⟩ = some (.slice (some ⟨b, o, none⟩) m2 d2) ∧ w'.cell? ⟨b, o + k, none⟩ = some (.int .i64 x)) (go_keep) (first | (go_at_call 41; refine (HHA.out _ (by have hb0 := HB.out; exact (by repeat (first | with_reducible exact Below.refl _ _ | with_reducible assumption | with_reducible refine Below.drew ?_ | with_reducible refine Below.drewN ?_ _ | with_reducible refine Below.alloc2 ?_ _ | with_reducible refine Below.alloc ?_ (by first | omega | (simp <;> omega)) _ | with_reducible refine Below.setCell ?_ (by first | omega | (simp <;> omega)) _ | with_reducible refine Below.step2 (by with_reducible assumption) ?_ | with_reducible refine Below.step (by with_reducible assumption) ?_ (by first | omega | (simp <;> omega)))))).mono ?_; rintro e w' ⟨rfl, rfl⟩))
            go_wp2
            go_ret
            have hb := HB.out
            exact ⟨(by repeat (first | with_reducible exact Below.refl _ _ | with_reducible assumption | with_reducible refine Below.drew ?_ | with_reducible refine Below.drewN ?_ _ | with_reducible refine Below.alloc2 ?_ _ | with_reducible refine Below.alloc ?_ (by first | omega | (simp <;> omega)) _ | with_reducible refine Below.setCell ?_ (by first | omega | (simp <;> omega)) _ | with_reducible refine Below.step2 (by with_reducible assumption) ?_ | with_reducible refine Below.step (by with_reducible assumption) ?_ (by first | omega | (simp <;> omega)))), ret_int HE.out.symm⟩
          · have HHA := Lib.hid (fun (W : World) (hW : Below w.heap.size w W) => has_lit _ _ _ _ x true W (HS.out W hW).b.nums hcx)
            have HCX := Lib.hid hcx
            go_wp2
            go_region_held3 (fun w' => w'.cell? ⟨w.heap.size, 1, none⟩ = some (.slice A2 n2 c2) ∧ w'.cell? ⟨w.heap.size + 1, 1, none⟩ = some (.slice (some ⟨b, o, none⟩) m2 d2) ∧ w'.cell? ⟨b, o + k, none⟩ = some (.int .i64 x)) (go_keep) (first | (go_at_call 41; refine (HHA.out _ (by have hb0 := HB.out; exact (by repeat (first | with_reducible exact Below.refl _ _ | with_reducible assumption | with_reducible refine Below.drew ?_ | with_reducible refine Below.drewN ?_ _ | with_reducible refine Below.alloc2 ?_ _ | with_reducible refine Below.alloc ?_ (by first | omega | (simp <;> omega)) _ | with_reducible refine Below.setCell ?_ (by first | omega | (simp <;> omega)) _ | with_reducible refine Below.step2 (by with_reducible assumption) ?_ | with_reducible refine Below.step (by with_reducible assumption) ?_ (by first | omega | (simp <;> omega)))))).mono ?_; rintro e w' ⟨rfl, rfl⟩))
            go_wp2
            go_roundw
            case rel =>
              have hb := HB.out
              have hbs := HBS.out
              have hbc := HBC.out
              refine ⟨k + 1, by omega, by go_num, Lib.hid ?_, hbs, hbc, (by repeat (first | with_reducible exact Below.refl _ _ | with_reducible assumption | with_reducible refine Below.drew ?_ | with_reducible refine Below.drewN ?_ _ | with_reducible refine Below.alloc2 ?_ _ | with_reducible refine Below.alloc ?_ (by first | omega | (simp <;> omega)) _ | with_reducible refine Below.setCell ?_ (by first | omega | (simp <;> omega)) _ | with_reducible refine Below.step2 (by with_reducible assumption) ?_ | with_reducible refine Below.step (by with_reducible assumption) ?_ (by first | omega | (simp <;> omega))))⟩
              obtain ⟨hk', e⟩ := List.getElem?_eq_some_iff.1 HX.out
              rw [List.take_succ_eq_append_getElem hk', List.all_append, hall.out, e]
              simpa using HCX.out
            case measure => simp [intOf]; omega
        · have e : m2 = k := by omega
          subst e
          clear hb hbs hbc
          have HCB : Hid ((lo.all fun z => s.boards.contains z) = true) := Lib.hid (by have := hall.out; rwa [List.take_of_length_le (by rw [HLD.out]; exact Nat.le_refl _)] at this)
          have HAB : Hid (((lb.all fun z => s.bays.contains z) && (lo.all fun z => s.boards.contains z)) = true) := Lib.hid (by rw [HCA.out, HCB.out]; rfl)
          clear hall
          rcases hfa : fall lb
          · have HFA := Lib.hid hfa
            have HE := Lib.hid (clo10 HSM.out HAB.out (by rw [hfa]; rfl))
            clear hfa
            go_wp2_with (go_at_call_of 42 (Value.slice B m d); refine (refFalling_any _ _ _ _ _ (HCLS.out _ HB.out).a.nums).mono ?_; rintro e wp ⟨hbp, rfl⟩; rw [HFA.out]; have HBP : Hid (Below w.heap.size w wp) := Lib.hid (by have hb0 := HB.out; exact (by repeat (first | with_reducible exact Below.refl _ _ | with_reducible assumption | with_reducible refine Below.drew ?_ | with_reducible refine Below.drewN ?_ _ | with_reducible refine Below.alloc2 ?_ _ | with_reducible refine Below.alloc ?_ (by first | omega | (simp <;> omega)) _ | with_reducible refine Below.setCell ?_ (by first | omega | (simp <;> omega)) _ | with_reducible refine Below.step2 (by with_reducible assumption) ?_ | with_reducible refine Below.step (by with_reducible assumption) ?_ (by first | omega | (simp <;> omega))))); have HCP := Lib.hid (HBC.out.below hbp oc); obtain ⟨p0, p1⟩ := HCP.out.pair; clear hbp)
            go_ret
            exact ⟨HBP.out, ret_int HE.out.symm⟩
          have HFA := Lib.hid hfa
          rcases hfb : fall lo
          · have HFB := Lib.hid hfb
            have HE := Lib.hid (clo10 HSM.out HAB.out (by rw [hfa, hfb]; rfl))
            clear hfa hfb
            go_wp2_with (first | (go_at_call_of 42 (Value.slice B m d); refine (refFalling_any _ _ _ _ _ (HCLS.out _ HB.out).a.nums).mono ?_; rintro e wp ⟨hbp, rfl⟩; rw [HFA.out]; have HBP : Hid (Below w.heap.size w wp) := Lib.hid (by have hb0 := HB.out; exact (by repeat (first | with_reducible exact Below.refl _ _ | with_reducible assumption | with_reducible refine Below.drew ?_ | with_reducible refine Below.drewN ?_ _ | with_reducible refine Below.alloc2 ?_ _ | with_reducible refine Below.alloc ?_ (by first | omega | (simp <;> omega)) _ | with_reducible refine Below.setCell ?_ (by first | omega | (simp <;> omega)) _ | with_reducible refine Below.step2 (by with_reducible assumption) ?_ | with_reducible refine Below.step (by with_reducible assumption) ?_ (by first | omega | (simp <;> omega))))); have HCP := Lib.hid (HBC.out.below hbp oc); obtain ⟨p0, p1⟩ := HCP.out.pair; clear hbp) | (go_at_call_of 42 (Value.slice B2 m2 d2); refine (refFalling_any _ _ _ _ _ (HCLS.out _ HBP.out).b.nums).mono ?_; rintro e wq ⟨hbq, rfl⟩; rw [HFB.out]; have HBQ : Hid (Below w.heap.size w wq) := Lib.hid (by have hb0 := HBP.out; exact (by repeat (first | with_reducible exact Below.refl _ _ | with_reducible assumption | with_reducible refine Below.drew ?_ | with_reducible refine Below.drewN ?_ _ | with_reducible refine Below.alloc2 ?_ _ | with_reducible refine Below.alloc ?_ (by first | omega | (simp <;> omega)) _ | with_reducible refine Below.setCell ?_ (by first | omega | (simp <;> omega)) _ | with_reducible refine Below.step2 (by with_reducible assumption) ?_ | with_reducible refine Below.step (by with_reducible assumption) ?_ (by first | omega | (simp <;> omega))))); clear hbq))
            go_ret
            exact ⟨HBQ.out, ret_int HE.out.symm⟩
          · have HFB := Lib.hid hfb
            have HE := Lib.hid (clo0 HSM.out HAB.out (by rw [hfa, hfb]; rfl))
            clear hfa hfb
            go_wp2_with (first | (go_at_call_of 42 (Value.slice B m d); refine (refFalling_any _ _ _ _ _ (HCLS.out _ HB.out).a.nums).mono ?_; rintro e wp ⟨hbp, rfl⟩; rw [HFA.out]; have HBP : Hid (Below w.heap.size w wp) := Lib.hid (by have hb0 := HB.out; exact (by repeat (first | with_reducible exact Below.refl _ _ | with_reducible assumption | with_reducible refine Below.drew ?_ | with_reducible refine Below.drewN ?_ _ | with_reducible refine Below.alloc2 ?_ _ | with_reducible refine Below.alloc ?_ (by first | omega | (simp <;> omega)) _ | with_reducible refine Below.setCell ?_ (by first | omega | (simp <;> omega)) _ | with_reducible refine Below.step2 (by with_reducible assumption) ?_ | with_reducible refine Below.step (by with_reducible assumption) ?_ (by first | omega | (simp <;> omega))))); have HCP := Lib.hid (HBC.out.below hbp oc); obtain ⟨p0, p1⟩ := HCP.out.pair; clear hbp) | (go_at_call_of 42 (Value.slice B2 m2 d2); refine (refFalling_any _ _ _ _ _ (HCLS.out _ HBP.out).b.nums).mono ?_; rintro e wq ⟨hbq, rfl⟩; rw [HFB.out]; have HBQ : Hid (Below w.heap.size w wq) := Lib.hid (by have hb0 := HBP.out; exact (by repeat (first | with_reducible exact Below.refl _ _ | with_reducible assumption | with_reducible refine Below.drew ?_ | with_reducible refine Below.drewN ?_ _ | with_reducible refine Below.alloc2 ?_ _ | with_reducible refine Below.alloc ?_ (by first | omega | (simp <;> omega)) _ | with_reducible refine Below.setCell ?_ (by first | omega | (simp <;> omega)) _ | with_reducible refine Below.step2 (by with_reducible assumption) ?_ | with_reducible refine Below.step (by with_reducible assumption) ?_ (by first | omega | (simp <;> omega))))); clear hbq))
            go_ret
            exact ⟨HBQ.out, ret_int HE.out.symm⟩

end Go.Proofs.Ytkcbfkflkepfeaa
