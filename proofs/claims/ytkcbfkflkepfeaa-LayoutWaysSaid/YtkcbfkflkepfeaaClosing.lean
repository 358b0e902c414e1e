/- Walks: contains, falling, descends, closingError, CostOf. -/
import Derived.Test.YtkcbfkflkepfeaaCost
import Derived.Test.YtkcbfkflkepfeaaCheckSys
import Derived.LoopN
namespace Go.Proofs.Ytkcbfkflkepfeaa
open Go.RowKit

theorem within_pred (w : World) (A : Option Addr) (n c g : Nat) (l : List Int) (hg : g < w.heap.size) (hc : w.cell? ⟨g, 0, none⟩ = some (.slice A n c)) (h : Ints w w.heap.size A n c l) :
    PredAt Try.prog 74 #[.pointer (some ⟨g, 0, none⟩)] (fun z : Int => .int .i64 z) (fun z => !(l.contains z)) w := fun W z hb => by
  have hc' : W.cell? ⟨g, 0, none⟩ = some (.slice A n c) := (hb.cell (p := ⟨g, 0, none⟩) hg).trans hc
  have h' : Ints W w.heap.size A n c l := h.below hb (Nat.le_refl _) (Nat.le_refl _)
  have hlen := h'.nums.len
  unfold FnGives
  have hC : ∀ W2, W2 = W → Calls Try.prog 75 #[.slice A n c, .int .i64 z] W2 fun e w' => e = .returned (.bool (l.contains z)) ∧ w' = W2 := by
    rintro W2 rfl
    rcases Nat.eq_zero_or_pos n with h0 | h0
    · subst h0
      obtain rfl : l = [] := List.eq_nil_of_length_eq_zero hlen
      exact Try.slices_Contains_int_empty A c z _
    · obtain ⟨b, o, rfl, -, hcc⟩ := h'.nums.sl.cells h0
      have := Try.slices_Contains_int b o n c l z W2 (by omega) (by have := h'.nums.cap; have := h'.nums.max; omega) (fun j hj => hcc j _ (by rw [i64s_get?, List.getElem?_eq_getElem hj, List.getD_eq_getElem?_getD, List.getElem?_eq_getElem hj]; rfl))
      rwa [List.take_of_length_le (by omega)] at this
  have HC := Lib.hid hC
  clear hC h'
  show Calls Try.prog 74 #[.int .i64 z, .pointer (some ⟨g, 0, none⟩)] W _
  go_enter Try.func74, Try.ntmps74
  go_wp2_with (go_at_call 75; refine (HC.out _ rfl).mono ?_; rintro e w' ⟨rfl, rfl⟩)
  all_goals
    go_ret
    exact ⟨by simp, 0, rfl⟩

theorem all_not_any (l m : List Int) : (m.any fun z => !(l.contains z)) = !(m.all fun z => l.contains z) := by
  induction m with
  | nil => rfl
  | cons a m ih => simp only [List.any_cons, List.all_cons, ih, Bool.not_and]

theorem contains_any (A B : Option Addr) (n c m d : Nat) (l lb : List Int) (w : World) (h : Ints w w.heap.size A n c l) (hb : Ints w w.heap.size B m d lb) :
    Calls Try.prog 65 #[.slice A n c, .slice B m d] w fun e w' => Below w.heap.size w w' ∧ e = .returned (.bool (lb.all fun z => l.contains z)) := by
  have HC : Hid (∀ W, W = w.alloc (.cells #[.slice A n c] 22) → Calls Try.prog 72 #[.slice B m d, .func (.func 74) #[] #[.pointer (some ⟨w.heap.size, 0, none⟩)]] W fun e w' => Below w.heap.size w w' ∧ e = .returned (.bool (!(lb.all fun z => l.contains z)))) := Lib.hid (by
    rintro W rfl
    have hlen := hb.nums.len
    have hbl : Below w.heap.size w (w.alloc (.cells #[.slice A n c] 22)) := Below.alloc (Below.refl _ _) (Nat.le_refl _) _
    rcases Nat.eq_zero_or_pos m with h0 | h0
    · subst h0
      obtain rfl : lb = [] := List.eq_nil_of_length_eq_zero hlen
      refine (Try.slices_ContainsFunc_empty (α := Int) B d _ _).mono ?_
      rintro e w' ⟨rfl, rfl⟩
      exact ⟨hbl, rfl⟩
    · have hb' := hb.below hbl (Nat.le_refl _) (Nat.le_refl _)
      obtain ⟨b, o, rfl, -, hcc⟩ := hb'.nums.sl.cells h0
      refine (Try.slices_ContainsFunc (fun z : Int => .int .i64 z) (fun z => !(l.contains z)) _ #[.pointer (some ⟨w.heap.size, 0, none⟩)] (enters_of Try.func74 (by kernel_rfl) rfl) b o m d lb _ (within_pred _ A n c w.heap.size l (by simp) (by simp) (h.below hbl (Nat.le_refl _) (by simp))) (by omega) (by have := hb.nums.cap; have := hb.nums.max; omega) (fun j hj => hcc j _ (by rw [i64s_get?, bang_of hj]; rfl))).mono ?_
      rintro e w' ⟨rfl, q, rfl⟩
      refine ⟨Below.drewN hbl q, ?_⟩
      rw [List.take_of_length_le (by omega), all_not_any])
  clear h hb
  generalize (lb.all fun z => l.contains z) = bb at *
  go_enter Try.func65, Try.ntmps65
  go_wp2_with (go_at_call 72; refine (HC.out _ rfl).mono ?_; rintro e w1 ⟨hb1, rfl⟩; have HB1 := Lib.hid hb1; clear hb1)
  all_goals
    go_ret
    exact ⟨HB1.out, ret_bool (by simp)⟩

theorem falling_any (a b z : Int) (w : World) (hz : Lib.compareInt b a = z) : Calls Try.prog 59 #[.int .i64 a, .int .i64 b] w fun e w' => w = w' ∧ e = .returned (.int .i64 z) := by
  have HC := Lib.hid (Try.cmp_Compare_int b a)
  rw [hz] at HC
  clear hz
  go_enter Try.func59, Try.ntmps59
  go_wp2_with (go_at_call 69; refine (HC.out _).mono ?_; rintro e w' ⟨rfl, rfl⟩)
  go_ret
  exact ⟨rfl, rfl⟩

set_option maxHeartbeats 4000000 in
theorem descends_any (A : Option Addr) (n c : Nat) (l : List Int) (w : World) (h : Ints w w.heap.size A n c l) :
    Calls Try.prog 76 #[.slice A n c, .func (.func 59) #[] #[]] w fun e w' => Below w.heap.size w w' ∧ e = .returned (.bool (fall l)) := by
  have hcap := h.nums.cap
  have hmax := h.nums.max
  have HLEN := Lib.hid h.nums.len
  have H : Hid (∀ w', Below w.heap.size w w' → Nums w' w.heap.size A n c l) := fun w' hb => h.nums.below hb (Nat.le_refl _) (Nat.le_refl _)
  rcases Nat.eq_zero_or_pos n with h0 | h0
  · subst h0
    obtain rfl : l = [] := List.eq_nil_of_length_eq_zero HLEN.out
    have hf : fall [] = true := by decide
    rw [hf]
    clear h hf H HLEN
    go_enter Try.func76, Try.ntmps76
    go_wp2
    refine wp_loop_rounds 1 ?_
    rw [rounds_succ]
    go_wp2
    go_ret
    exact ⟨(by repeat (first | with_reducible exact Below.refl _ _ | with_reducible assumption | with_reducible refine Below.drew ?_ | with_reducible refine Below.drewN ?_ _ | with_reducible refine Below.alloc2 ?_ _ | with_reducible refine Below.alloc ?_ (by first | omega | (simp <;> omega)) _ | with_reducible refine Below.setCell ?_ (by first | omega | (simp <;> omega)) _ | with_reducible refine Below.step2 (by with_reducible assumption) ?_ | with_reducible refine Below.step (by with_reducible assumption) ?_ (by first | omega | (simp <;> omega)))), rfl⟩
  · have hw0 : IntKind.i64.wrap ((n : Int) - 1) = ((n - 1 : Nat) : Int) := by rw [IntWalk.i64_in _ (by omega)]; omega
    obtain ⟨N, hN⟩ : ∃ N, N = n - 1 := ⟨_, rfl⟩
    rw [← hN] at hw0
    have HN := Lib.hid hN
    have hN1 : N < n := by omega
    clear h hN
    go_enter Try.func76, Try.ntmps76
    go_wp2
    go_loopw [5] (fun i wr => ∃ I : Nat, I ≤ N ∧ i = .int .i64 (I : Int) ∧ Hid (∀ j, I ≤ j → j < n - 1 → l.getD (j + 1) 0 ≤ l.getD j 0) ∧ Below w.heap.size w wr) (fun i _ => (intOf i).toNat)
    case atStart => exact ⟨N, Nat.le_refl _, rfl, (fun j hj hj2 => by have := HN.out; omega : ∀ j, N ≤ j → j < n - 1 → l.getD (j + 1) 0 ≤ l.getD j 0), Below.refl _ _⟩
    case round =>
      obtain ⟨I0, hI, rfl, hall, hb⟩ := hrel
      by_cases hlt : 0 < I0
      · obtain ⟨I, hI0⟩ : ∃ I, I0 = I + 1 := ⟨I0 - 1, by omega⟩
        obtain ⟨b, o, x, rfl, hbb, hx, c0⟩ := (H.out _ hb).at_ (show I < n by omega)
        obtain ⟨b', o', y, e, hbb', hy, c1⟩ := (H.out _ hb).at_ (show I0 < n by omega)
        obtain ⟨rfl, rfl⟩ : b = b' ∧ o = o' := by simpa using e
        have hw1 : IntKind.i64.wrap ((I0 : Int) - 1) = (I : Int) := by rw [IntWalk.i64_in _ (by omega)]; omega
        have z1 : (0 : Int) ≤ (I0 : Int) := by omega
        have z2 : (I0 : Int) < (n : Int) := by omega
        have z3 : (0 : Int) ≤ (I : Int) := by omega
        have z4 : (I : Int) < (n : Int) := by omega
        rw [hI0] at hy
        have HX := Lib.hid (getD_of hx)
        have HY := Lib.hid (getD_of hy)
        have HB := Lib.hid hb
        have ow := hb.size
        have ob : b < wr.heap.size := by omega
        have HI0 := Lib.hid hI0
        have hIN : I < N := by omega
        clear hb e hx hy hbb' hI0 hI
        by_cases hxy : x < y
        · have HFA := Lib.hid (fun W : World => falling_any y x (-1) W (by unfold Lib.compareInt; rw [if_pos hxy]))
          have HRF := Lib.hid (fall_not (l := l) (j := I) (by rw [HLEN.out]; have := HN.out; omega) (by rw [HX.out, HY.out]; exact hxy))
          go_wp2
          go_region_held3 (fun w' => w'.cell? ⟨b, o + I0, none⟩ = some (.int .i64 y) ∧ w'.cell? ⟨b, o + I, none⟩ = some (.int .i64 x)) (go_keep) (first | (go_at_call 59; refine (HFA.out _).mono ?_; rintro e w' ⟨rfl, rfl⟩))
          go_wp2
          go_ret
          have hb := HB.out
          exact ⟨(by repeat (first | with_reducible exact Below.refl _ _ | with_reducible assumption | with_reducible refine Below.drew ?_ | with_reducible refine Below.drewN ?_ _ | with_reducible refine Below.alloc2 ?_ _ | with_reducible refine Below.alloc ?_ (by first | omega | (simp <;> omega)) _ | with_reducible refine Below.setCell ?_ (by first | omega | (simp <;> omega)) _ | with_reducible refine Below.step2 (by with_reducible assumption) ?_ | with_reducible refine Below.step (by with_reducible assumption) ?_ (by first | omega | (simp <;> omega)))), ret_bool HRF.out.symm⟩
        · by_cases hyx : y < x
          · have HFA := Lib.hid (fun W : World => falling_any y x 1 W (by unfold Lib.compareInt; rw [if_neg hxy, if_pos (by omega)]))
            go_wp2
            go_region_held3 (fun w' => w'.cell? ⟨b, o + I0, none⟩ = some (.int .i64 y) ∧ w'.cell? ⟨b, o + I, none⟩ = some (.int .i64 x)) (go_keep) (first | (go_at_call 59; refine (HFA.out _).mono ?_; rintro e w' ⟨rfl, rfl⟩))
            go_wp2
            go_roundw
            case rel =>
              have hb := HB.out
              have hI0 := HI0.out
              refine ⟨I, by omega, by go_num, (fun j hj hj2 => ?_ : ∀ j, I ≤ j → j < n - 1 → l.getD (j + 1) 0 ≤ l.getD j 0), (by repeat (first | with_reducible exact Below.refl _ _ | with_reducible assumption | with_reducible refine Below.drew ?_ | with_reducible refine Below.drewN ?_ _ | with_reducible refine Below.alloc2 ?_ _ | with_reducible refine Below.alloc ?_ (by first | omega | (simp <;> omega)) _ | with_reducible refine Below.setCell ?_ (by first | omega | (simp <;> omega)) _ | with_reducible refine Below.step2 (by with_reducible assumption) ?_ | with_reducible refine Below.step (by with_reducible assumption) ?_ (by first | omega | (simp <;> omega))))⟩
              rcases Nat.lt_or_ge I j with hj' | hj'
              · exact hall.out j (by omega) hj2
              · obtain rfl : j = I := by omega
                rw [HX.out, HY.out]
                omega
            case measure =>
              have hI0 := HI0.out
              simp [intOf]; omega
          · have HFA := Lib.hid (fun W : World => falling_any y x 0 W (by unfold Lib.compareInt; rw [if_neg hxy, if_neg (by omega)]))
            go_wp2
            go_region_held3 (fun w' => w'.cell? ⟨b, o + I0, none⟩ = some (.int .i64 y) ∧ w'.cell? ⟨b, o + I, none⟩ = some (.int .i64 x)) (go_keep) (first | (go_at_call 59; refine (HFA.out _).mono ?_; rintro e w' ⟨rfl, rfl⟩))
            go_wp2
            go_roundw
            case rel =>
              have hb := HB.out
              have hI0 := HI0.out
              refine ⟨I, by omega, by go_num, (fun j hj hj2 => ?_ : ∀ j, I ≤ j → j < n - 1 → l.getD (j + 1) 0 ≤ l.getD j 0), (by repeat (first | with_reducible exact Below.refl _ _ | with_reducible assumption | with_reducible refine Below.drew ?_ | with_reducible refine Below.drewN ?_ _ | with_reducible refine Below.alloc2 ?_ _ | with_reducible refine Below.alloc ?_ (by first | omega | (simp <;> omega)) _ | with_reducible refine Below.setCell ?_ (by first | omega | (simp <;> omega)) _ | with_reducible refine Below.step2 (by with_reducible assumption) ?_ | with_reducible refine Below.step (by with_reducible assumption) ?_ (by first | omega | (simp <;> omega))))⟩
              rcases Nat.lt_or_ge I j with hj' | hj'
              · exact hall.out j (by omega) hj2
              · obtain rfl : j = I := by omega
                rw [HX.out, HY.out]
                omega
            case measure =>
              have hI0 := HI0.out
              simp [intOf]; omega
      · have e : I0 = 0 := by omega
        subst e
        have HB := Lib.hid hb
        clear hb
        go_wp2
        go_ret
        exact ⟨HB.out, ret_bool (fall_iff.2 (fun j hj => hall.out j (Nat.zero_le _) (by rw [HLEN.out] at hj; exact hj))).symm⟩

end Go.Proofs.Ytkcbfkflkepfeaa
