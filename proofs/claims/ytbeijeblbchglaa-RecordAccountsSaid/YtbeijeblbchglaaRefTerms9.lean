/- Chapter 9, walks: Term, CheckTerms of the reference. -/
import Derived.Test.YtbeijeblbchglaaTerms9
import Derived.Test.YtbeijeblbchglaaRefName9
namespace Go.Proofs.Ytbeijeblbchglaa
open Go.RowKit

/-- The number of the term of a part, or -1. -/
def ixT : List Q4 → ByteArray → Int
  | [], _ => -1
  | x :: l, p => if eqS x.s p then 0 else if ixT l p < 0 then -1 else ixT l p + 1
theorem ixT_ge : ∀ (l : List Q4) (p : ByteArray), -1 ≤ ixT l p
  | [], _ => by simp [ixT]
  | x :: l, p => by
    have := ixT_ge l p
    simp only [ixT]
    split
    · omega
    · split <;> omega
theorem ixT_at : ∀ {l : List Q4} {k : Nat} {x : Q4} {p : ByteArray}, l[k]? = some x → hasT (l.take k) p = false → eqS x.s p = true → ixT l p = k
  | [], k, x, p, h, _, _ => by simp at h
  | y :: l, 0, x, p, h, _, hp => by
    simp at h
    subst h
    simp [ixT, hp]
  | y :: l, k + 1, x, p, h, ha, hp => by
    simp only [hasT, List.take_succ_cons, List.any_cons, Bool.or_eq_false_iff] at ha
    have := ixT_at (l := l) (k := k) (x := x) (p := p) (by simpa using h) ha.2 hp
    simp only [ixT, ha.1, this]
    rw [if_neg (by simp), if_neg (by omega)]
    omega
theorem ixT_none : ∀ {l : List Q4} {p : ByteArray}, hasT l p = false → ixT l p = -1
  | [], _, _ => rfl
  | x :: l, p, h => by
    simp only [hasT, List.any_cons, Bool.or_eq_false_iff] at h
    simp [ixT, h.1, ixT_none (l := l) h.2]
theorem ixT_has : ∀ (l : List Q4) (p : ByteArray), decide (0 ≤ ixT l p) = hasT l p
  | [], p => by simp [ixT, hasT]
  | x :: l, p => by
    have h := ixT_has l p
    have hg := ixT_ge l p
    simp only [hasT, List.any_cons] at h ⊢
    rw [← h]
    cases he : eqS x.s p
    · by_cases h0 : ixT l p < 0
      · simp [ixT, he, h0]
      · simp [ixT, he, h0]
        omega
    · simp [ixT, he]
theorem hasT_snoc {l : List Q4} {k : Nat} {x : Q4} {p : ByteArray} (hx : l[k]? = some x) (h : hasT (l.take k) p = false) (h2 : eqS x.s p = false) : hasT (l.take (k + 1)) p = false := by
  rw [take_step hx]
  simp only [hasT, List.any_append, List.any_cons, List.any_nil, Bool.or_false] at h ⊢
  rw [h, h2]
  rfl
set_option maxHeartbeats 1000000 in
theorem refTerm_any (A : Option Addr) (n c B : Nat) (l : List Q4) (p : ByteArray) (w : World) (h : Rws Q4.cs 4 w B A n c l) :
    Calls Try.prog 45 #[.slice A n c, .string p] w fun e w' => w = w' ∧ e = .returned (.int .i64 (ixT l p)) := by
  have hcap := h.cap
  have hmax := h.max
  have HLEN := Lib.hid h.len
  obtain ⟨R, hR⟩ : ∃ R, ixT l p = R := ⟨_, rfl⟩
  have HR := Lib.hid hR
  rw [hR]
  clear hR
  go_enter Try.func45, Try.ntmps45
  go_wp2
  go_loop [5] (fun i => ∃ k : Nat, k ≤ n ∧ i = .int .i64 k ∧ Hid (hasT (l.take k) p = false)) (fun i => n - (intOf i).toNat)
  case atStart => exact ⟨0, Nat.zero_le _, rfl, Lib.hid rfl⟩
  case round =>
    obtain ⟨k, hk, rfl, HV⟩ := hrel
    by_cases hlt : k < n
    · obtain ⟨b, o, ⟨xs, xa, xb, xc⟩, rfl, hb, hx, c0, c1, c2, c3⟩ := h.q4 hlt
      dsimp only at c0 c1 c2 c3
      have HX := Lib.hid hx
      obtain ⟨v, hv⟩ : ∃ v, (xs.toList == p.toList) = v := ⟨_, rfl⟩
      have HE : Hid (eqS xs p = v) := Lib.hid hv
      clear hx
      cases v
      · go_wp2
        go_round
        case rel => exact ⟨k + 1, by omega, by go_num, Lib.hid (hasT_snoc HX.out HV.out HE.out)⟩
        case measure => simp [intOf]; omega
      · go_wp2
        go_ret
        exact ⟨rfl, ret_int (by rw [← HR.out]; exact (ixT_at HX.out HV.out HE.out).symm)⟩
    · go_wp2
      go_ret
      refine ⟨rfl, ret_int ?_⟩
      have := HV.out
      rw [List.take_of_length_le (by rw [HLEN.out]; omega)] at this
      rw [← HR.out]
      exact (ixT_none this).symm
theorem quiet_left {P : Program} {f : FuncId} {args : Array Value} {w : World} {n : Nat} {v : Value}
    (h : Calls P f args (w.drewN n) fun e w' => w.drewN n = w' ∧ e = .returned v) : Calls P f args (w.drewN n) fun e w'' => e = .returned v ∧ ∃ m, w'' = w.drewN m :=
  h.mono fun _ _ ⟨hm, he⟩ => ⟨he, n, hm.symm⟩
set_option maxRecDepth 100000 in
set_option maxHeartbeats 8000000 in
theorem refCheckTerms_any (A : Option Addr) (n c : Nat) (l : List Q4) (w : World) (h : Rws Q4.cs 4 w w.heap.size A n c l) (hs : ∀ x ∈ l, x.s.size ≤ 30) :
    Calls Try.prog 20 #[.slice A n c] w fun e w' => Below w.heap.size w w' ∧ e = .returned (.int .i64 (termErr l)) := by
  have hcap := h.cap
  have hmax := h.max
  have HLEN := Lib.hid h.len
  have HS := Lib.hid hs
  have H : Hid (∀ w', Below w.heap.size w w' → Rws Q4.cs 4 w' w.heap.size A n c l) := fun w' hb => h.below hb (Nat.le_refl _) (Nat.le_refl _)
  obtain ⟨R, hR⟩ : ∃ R, termErr l = R := ⟨_, rfl⟩
  have HR0 := Lib.hid hR
  rw [hR]
  clear hR h hs
  by_cases hbig : 60 < n
  · obtain rfl : R = 8 := by rw [← HR0.out, termErr, HLEN.out, if_pos hbig]
    go_enter Try.func20, Try.ntmps20
    go_wp2
    go_ret
    exact ⟨(by repeat (first | with_reducible exact Below.refl _ _ | with_reducible assumption | with_reducible refine Below.drew ?_ | with_reducible refine Below.drewN ?_ _ | with_reducible refine Below.alloc2 ?_ _ | with_reducible refine Below.alloc ?_ (by first | omega | (simp <;> omega)) _ | with_reducible refine Below.setCell ?_ (by first | omega | (simp <;> omega)) _ | with_reducible refine Below.step2 (by with_reducible assumption) ?_ | with_reducible refine Below.step (by with_reducible assumption) ?_ (by first | omega | (simp <;> omega)))), rfl⟩
  have HR : Hid (tGo [] l = R) := Lib.hid (by rw [← HR0.out, termErr, HLEN.out, if_neg hbig])
  go_enter Try.func20, Try.ntmps20
  go_wp2
  go_loopw [3] (fun i wr => ∃ k : Nat, k ≤ n ∧ i = .int .i64 k ∧ Hid (tGo [] l = tGo (l.take k) (l.drop k)) ∧ Below w.heap.size w wr) (fun i _ => n - (intOf i).toNat)
  case atStart => exact ⟨0, Nat.zero_le _, rfl, Lib.hid rfl, (by repeat (first | with_reducible exact Below.refl _ _ | with_reducible assumption | with_reducible refine Below.drew ?_ | with_reducible refine Below.drewN ?_ _ | with_reducible refine Below.alloc2 ?_ _ | with_reducible refine Below.alloc ?_ (by first | omega | (simp <;> omega)) _ | with_reducible refine Below.setCell ?_ (by first | omega | (simp <;> omega)) _ | with_reducible refine Below.step2 (by with_reducible assumption) ?_ | with_reducible refine Below.step (by with_reducible assumption) ?_ (by first | omega | (simp <;> omega))))⟩
  case round =>
    obtain ⟨k, hk, rfl, HV, hb⟩ := hrel
    have HB := Lib.hid hb
    have ow := hb.size
    by_cases hlt : k < n
    · obtain ⟨b, o, ⟨xs, xa, xb, xc⟩, rfl, hbb, hx, c0, c1, c2, c3⟩ := (H.out _ hb).q4 hlt
      dsimp only at c0 c1 c2 c3
      have HX := Lib.hid hx
      have hxs : xs.size ≤ 30 := HS.out _ (List.mem_of_getElem? hx)
      obtain ⟨v1, hv1⟩ : ∃ v, nameB xs = v := ⟨_, rfl⟩
      obtain ⟨v2, hv2⟩ : ∃ v, hasT (l.take k) xs = v := ⟨_, rfl⟩
      obtain ⟨v3, hv3⟩ : ∃ v, inR 0 1000000 xa = v := ⟨_, rfl⟩
      obtain ⟨v4, hv4⟩ : ∃ v, inR 0 1000000 xc = v := ⟨_, rfl⟩
      obtain ⟨v5, hv5⟩ : ∃ v, inR 0 520 xb = v := ⟨_, rfl⟩
      have HE : Hid (tE (l.take k) ⟨xs, xa, xb, xc⟩ = if v1 then (if v2 then 5 else if v3 && v4 && v5 then 0 else 2) else 4) := Lib.hid (by simp only [tE, rngT, hv1, hv2, hv3, hv4, hv5])
      obtain ⟨I, hI⟩ : ∃ I, ixT (l.take k) xs = I := ⟨_, rfl⟩
      have hIv : decide (0 ≤ I) = v2 := by rw [← hI, ixT_has, hv2]
      have HN := Lib.hid hv1
      have HR1 := Lib.hid hv3
      have HR2 := Lib.hid hv4
      have HR3 := Lib.hid hv5
      have HTM : Hid (∀ W, Below w.heap.size w W → Calls Try.prog 45 #[.slice (some ⟨b, o, none⟩) k c, .string xs] W fun e w' => W = w' ∧ e = .returned (.int .i64 I)) := Lib.hid fun W hW => by
        have := refTerm_any _ _ _ _ _ xs W ((H.out W hW).take Q4.wide (show k ≤ n by omega))
        rwa [hI] at this
      have ob : b < wr.heap.size := by omega
      have z1 : (0 : Int) ≤ (k : Int) := by omega
      have z2 : (k : Int) < (n : Int) := by omega
      have z3 : (k : Int) ≤ (c : Int) := by omega
      clear hx hb hv1 hv2 hv3 hv4 hv5 hI
      cases v1
      · (
          go_wp2_with (first
        | (go_at_call 52; with_reducible refine (refName_any xs _ (by omega)).mono ?_; rw [HN.out]; rintro e w' ⟨rfl, rfl⟩)
        | (go_at_call 16; with_reducible refine (within_b HR1.out _).mono ?_; rintro e w' ⟨rfl, rfl⟩)
        | (go_at_call 16; with_reducible refine (within_b HR2.out _).mono ?_; rintro e w' ⟨rfl, rfl⟩)
        | (go_at_call 16; with_reducible refine (within_b HR3.out _).mono ?_; rintro e w' ⟨rfl, rfl⟩))
          go_ret
          have hb0 := HB.out
          refine ⟨(by repeat (first | with_reducible exact Below.refl _ _ | with_reducible assumption | with_reducible refine Below.drew ?_ | with_reducible refine Below.drewN ?_ _ | with_reducible refine Below.alloc2 ?_ _ | with_reducible refine Below.alloc ?_ (by first | omega | (simp <;> omega)) _ | with_reducible refine Below.setCell ?_ (by first | omega | (simp <;> omega)) _ | with_reducible refine Below.step2 (by with_reducible assumption) ?_ | with_reducible refine Below.step (by with_reducible assumption) ?_ (by first | omega | (simp <;> omega)))), ret_int ?_⟩
          rw [← HR.out]
          exact (tGo_bad (E := 4) HX.out HV.out HE.out (by decide)).symm)
      cases v2
      rotate_left
      · have hI0 : 0 ≤ I := by simpa using hIv
        (
          go_wp2_with (first
        | (go_at_call 52; with_reducible refine (refName_any xs _ (by omega)).mono ?_; rw [HN.out]; rintro e w' ⟨rfl, rfl⟩)
        | (go_at_call 16; with_reducible refine (within_b HR1.out _).mono ?_; rintro e w' ⟨rfl, rfl⟩)
        | (go_at_call 16; with_reducible refine (within_b HR2.out _).mono ?_; rintro e w' ⟨rfl, rfl⟩)
        | (go_at_call 16; with_reducible refine (within_b HR3.out _).mono ?_; rintro e w' ⟨rfl, rfl⟩))
          go_quiet ((go_at_call 45; exact quiet_left (HTM.out _ (by have hb0 := HB.out; exact (by repeat (first | with_reducible exact Below.refl _ _ | with_reducible assumption | with_reducible refine Below.drew ?_ | with_reducible refine Below.drewN ?_ _ | with_reducible refine Below.alloc2 ?_ _ | with_reducible refine Below.alloc ?_ (by first | omega | (simp <;> omega)) _ | with_reducible refine Below.setCell ?_ (by first | omega | (simp <;> omega)) _ | with_reducible refine Below.step2 (by with_reducible assumption) ?_ | with_reducible refine Below.step (by with_reducible assumption) ?_ (by first | omega | (simp <;> omega))))))))
          go_wp2_with (first
        | (go_at_call 52; with_reducible refine (refName_any xs _ (by omega)).mono ?_; rw [HN.out]; rintro e w' ⟨rfl, rfl⟩)
        | (go_at_call 16; with_reducible refine (within_b HR1.out _).mono ?_; rintro e w' ⟨rfl, rfl⟩)
        | (go_at_call 16; with_reducible refine (within_b HR2.out _).mono ?_; rintro e w' ⟨rfl, rfl⟩)
        | (go_at_call 16; with_reducible refine (within_b HR3.out _).mono ?_; rintro e w' ⟨rfl, rfl⟩))
          go_ret
          have hb0 := HB.out
          refine ⟨(by repeat (first | with_reducible exact Below.refl _ _ | with_reducible assumption | with_reducible refine Below.drew ?_ | with_reducible refine Below.drewN ?_ _ | with_reducible refine Below.alloc2 ?_ _ | with_reducible refine Below.alloc ?_ (by first | omega | (simp <;> omega)) _ | with_reducible refine Below.setCell ?_ (by first | omega | (simp <;> omega)) _ | with_reducible refine Below.step2 (by with_reducible assumption) ?_ | with_reducible refine Below.step (by with_reducible assumption) ?_ (by first | omega | (simp <;> omega)))), ret_int ?_⟩
          rw [← HR.out]
          exact (tGo_bad (E := 5) HX.out HV.out HE.out (by decide)).symm)
      have hI0 : ¬ 0 ≤ I := by simpa using hIv
      cases v3
      · (
          go_wp2_with (first
        | (go_at_call 52; with_reducible refine (refName_any xs _ (by omega)).mono ?_; rw [HN.out]; rintro e w' ⟨rfl, rfl⟩)
        | (go_at_call 16; with_reducible refine (within_b HR1.out _).mono ?_; rintro e w' ⟨rfl, rfl⟩)
        | (go_at_call 16; with_reducible refine (within_b HR2.out _).mono ?_; rintro e w' ⟨rfl, rfl⟩)
        | (go_at_call 16; with_reducible refine (within_b HR3.out _).mono ?_; rintro e w' ⟨rfl, rfl⟩))
          go_quiet ((go_at_call 45; exact quiet_left (HTM.out _ (by have hb0 := HB.out; exact (by repeat (first | with_reducible exact Below.refl _ _ | with_reducible assumption | with_reducible refine Below.drew ?_ | with_reducible refine Below.drewN ?_ _ | with_reducible refine Below.alloc2 ?_ _ | with_reducible refine Below.alloc ?_ (by first | omega | (simp <;> omega)) _ | with_reducible refine Below.setCell ?_ (by first | omega | (simp <;> omega)) _ | with_reducible refine Below.step2 (by with_reducible assumption) ?_ | with_reducible refine Below.step (by with_reducible assumption) ?_ (by first | omega | (simp <;> omega))))))))
          go_wp2_with (first
        | (go_at_call 52; with_reducible refine (refName_any xs _ (by omega)).mono ?_; rw [HN.out]; rintro e w' ⟨rfl, rfl⟩)
        | (go_at_call 16; with_reducible refine (within_b HR1.out _).mono ?_; rintro e w' ⟨rfl, rfl⟩)
        | (go_at_call 16; with_reducible refine (within_b HR2.out _).mono ?_; rintro e w' ⟨rfl, rfl⟩)
        | (go_at_call 16; with_reducible refine (within_b HR3.out _).mono ?_; rintro e w' ⟨rfl, rfl⟩))
          go_ret
          have hb0 := HB.out
          refine ⟨(by repeat (first | with_reducible exact Below.refl _ _ | with_reducible assumption | with_reducible refine Below.drew ?_ | with_reducible refine Below.drewN ?_ _ | with_reducible refine Below.alloc2 ?_ _ | with_reducible refine Below.alloc ?_ (by first | omega | (simp <;> omega)) _ | with_reducible refine Below.setCell ?_ (by first | omega | (simp <;> omega)) _ | with_reducible refine Below.step2 (by with_reducible assumption) ?_ | with_reducible refine Below.step (by with_reducible assumption) ?_ (by first | omega | (simp <;> omega)))), ret_int ?_⟩
          rw [← HR.out]
          exact (tGo_bad (E := 2) HX.out HV.out HE.out (by decide)).symm)
      cases v4
      · (
          go_wp2_with (first
        | (go_at_call 52; with_reducible refine (refName_any xs _ (by omega)).mono ?_; rw [HN.out]; rintro e w' ⟨rfl, rfl⟩)
        | (go_at_call 16; with_reducible refine (within_b HR1.out _).mono ?_; rintro e w' ⟨rfl, rfl⟩)
        | (go_at_call 16; with_reducible refine (within_b HR2.out _).mono ?_; rintro e w' ⟨rfl, rfl⟩)
        | (go_at_call 16; with_reducible refine (within_b HR3.out _).mono ?_; rintro e w' ⟨rfl, rfl⟩))
          go_quiet ((go_at_call 45; exact quiet_left (HTM.out _ (by have hb0 := HB.out; exact (by repeat (first | with_reducible exact Below.refl _ _ | with_reducible assumption | with_reducible refine Below.drew ?_ | with_reducible refine Below.drewN ?_ _ | with_reducible refine Below.alloc2 ?_ _ | with_reducible refine Below.alloc ?_ (by first | omega | (simp <;> omega)) _ | with_reducible refine Below.setCell ?_ (by first | omega | (simp <;> omega)) _ | with_reducible refine Below.step2 (by with_reducible assumption) ?_ | with_reducible refine Below.step (by with_reducible assumption) ?_ (by first | omega | (simp <;> omega))))))))
          go_wp2_with (first
        | (go_at_call 52; with_reducible refine (refName_any xs _ (by omega)).mono ?_; rw [HN.out]; rintro e w' ⟨rfl, rfl⟩)
        | (go_at_call 16; with_reducible refine (within_b HR1.out _).mono ?_; rintro e w' ⟨rfl, rfl⟩)
        | (go_at_call 16; with_reducible refine (within_b HR2.out _).mono ?_; rintro e w' ⟨rfl, rfl⟩)
        | (go_at_call 16; with_reducible refine (within_b HR3.out _).mono ?_; rintro e w' ⟨rfl, rfl⟩))
          go_ret
          have hb0 := HB.out
          refine ⟨(by repeat (first | with_reducible exact Below.refl _ _ | with_reducible assumption | with_reducible refine Below.drew ?_ | with_reducible refine Below.drewN ?_ _ | with_reducible refine Below.alloc2 ?_ _ | with_reducible refine Below.alloc ?_ (by first | omega | (simp <;> omega)) _ | with_reducible refine Below.setCell ?_ (by first | omega | (simp <;> omega)) _ | with_reducible refine Below.step2 (by with_reducible assumption) ?_ | with_reducible refine Below.step (by with_reducible assumption) ?_ (by first | omega | (simp <;> omega)))), ret_int ?_⟩
          rw [← HR.out]
          exact (tGo_bad (E := 2) HX.out HV.out HE.out (by decide)).symm)
      cases v5
      · (
          go_wp2_with (first
        | (go_at_call 52; with_reducible refine (refName_any xs _ (by omega)).mono ?_; rw [HN.out]; rintro e w' ⟨rfl, rfl⟩)
        | (go_at_call 16; with_reducible refine (within_b HR1.out _).mono ?_; rintro e w' ⟨rfl, rfl⟩)
        | (go_at_call 16; with_reducible refine (within_b HR2.out _).mono ?_; rintro e w' ⟨rfl, rfl⟩)
        | (go_at_call 16; with_reducible refine (within_b HR3.out _).mono ?_; rintro e w' ⟨rfl, rfl⟩))
          go_quiet ((go_at_call 45; exact quiet_left (HTM.out _ (by have hb0 := HB.out; exact (by repeat (first | with_reducible exact Below.refl _ _ | with_reducible assumption | with_reducible refine Below.drew ?_ | with_reducible refine Below.drewN ?_ _ | with_reducible refine Below.alloc2 ?_ _ | with_reducible refine Below.alloc ?_ (by first | omega | (simp <;> omega)) _ | with_reducible refine Below.setCell ?_ (by first | omega | (simp <;> omega)) _ | with_reducible refine Below.step2 (by with_reducible assumption) ?_ | with_reducible refine Below.step (by with_reducible assumption) ?_ (by first | omega | (simp <;> omega))))))))
          go_wp2_with (first
        | (go_at_call 52; with_reducible refine (refName_any xs _ (by omega)).mono ?_; rw [HN.out]; rintro e w' ⟨rfl, rfl⟩)
        | (go_at_call 16; with_reducible refine (within_b HR1.out _).mono ?_; rintro e w' ⟨rfl, rfl⟩)
        | (go_at_call 16; with_reducible refine (within_b HR2.out _).mono ?_; rintro e w' ⟨rfl, rfl⟩)
        | (go_at_call 16; with_reducible refine (within_b HR3.out _).mono ?_; rintro e w' ⟨rfl, rfl⟩))
          go_ret
          have hb0 := HB.out
          refine ⟨(by repeat (first | with_reducible exact Below.refl _ _ | with_reducible assumption | with_reducible refine Below.drew ?_ | with_reducible refine Below.drewN ?_ _ | with_reducible refine Below.alloc2 ?_ _ | with_reducible refine Below.alloc ?_ (by first | omega | (simp <;> omega)) _ | with_reducible refine Below.setCell ?_ (by first | omega | (simp <;> omega)) _ | with_reducible refine Below.step2 (by with_reducible assumption) ?_ | with_reducible refine Below.step (by with_reducible assumption) ?_ (by first | omega | (simp <;> omega)))), ret_int ?_⟩
          rw [← HR.out]
          exact (tGo_bad (E := 2) HX.out HV.out HE.out (by decide)).symm)
      · (
          go_wp2_with (first
        | (go_at_call 52; with_reducible refine (refName_any xs _ (by omega)).mono ?_; rw [HN.out]; rintro e w' ⟨rfl, rfl⟩)
        | (go_at_call 16; with_reducible refine (within_b HR1.out _).mono ?_; rintro e w' ⟨rfl, rfl⟩)
        | (go_at_call 16; with_reducible refine (within_b HR2.out _).mono ?_; rintro e w' ⟨rfl, rfl⟩)
        | (go_at_call 16; with_reducible refine (within_b HR3.out _).mono ?_; rintro e w' ⟨rfl, rfl⟩))
          go_quiet ((go_at_call 45; exact quiet_left (HTM.out _ (by have hb0 := HB.out; exact (by repeat (first | with_reducible exact Below.refl _ _ | with_reducible assumption | with_reducible refine Below.drew ?_ | with_reducible refine Below.drewN ?_ _ | with_reducible refine Below.alloc2 ?_ _ | with_reducible refine Below.alloc ?_ (by first | omega | (simp <;> omega)) _ | with_reducible refine Below.setCell ?_ (by first | omega | (simp <;> omega)) _ | with_reducible refine Below.step2 (by with_reducible assumption) ?_ | with_reducible refine Below.step (by with_reducible assumption) ?_ (by first | omega | (simp <;> omega))))))))
          go_wp2_with (first
        | (go_at_call 52; with_reducible refine (refName_any xs _ (by omega)).mono ?_; rw [HN.out]; rintro e w' ⟨rfl, rfl⟩)
        | (go_at_call 16; with_reducible refine (within_b HR1.out _).mono ?_; rintro e w' ⟨rfl, rfl⟩)
        | (go_at_call 16; with_reducible refine (within_b HR2.out _).mono ?_; rintro e w' ⟨rfl, rfl⟩)
        | (go_at_call 16; with_reducible refine (within_b HR3.out _).mono ?_; rintro e w' ⟨rfl, rfl⟩))
          go_roundw
          case rel =>
            have hb0 := HB.out
            exact ⟨k + 1, by omega, by go_num, Lib.hid (tGo_next HX.out HV.out HE.out), (by repeat (first | with_reducible exact Below.refl _ _ | with_reducible assumption | with_reducible refine Below.drew ?_ | with_reducible refine Below.drewN ?_ _ | with_reducible refine Below.alloc2 ?_ _ | with_reducible refine Below.alloc ?_ (by first | omega | (simp <;> omega)) _ | with_reducible refine Below.setCell ?_ (by first | omega | (simp <;> omega)) _ | with_reducible refine Below.step2 (by with_reducible assumption) ?_ | with_reducible refine Below.step (by with_reducible assumption) ?_ (by first | omega | (simp <;> omega))))⟩
          case measure => simp [intOf]; omega)
    · go_wp2
      go_ret
      refine ⟨HB.out, ret_int ?_⟩
      rw [← HR.out]
      exact (tGo_end (by rw [HLEN.out]; omega) HV.out).symm

end Go.Proofs.Ytbeijeblbchglaa
