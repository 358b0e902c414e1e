/- Chapter 8, walks: Check of stocks, on both sides. -/
import Derived.Test.YtmcefodfppdajaaRefName9
import Derived.Test.YtmcefodfppdajaaShelfM8
import Derived.Carry
namespace Go.Proofs.Ytmcefodfppdajaa
open Go.RowKit Go.Maps

/-- Equal texts, as Go asks. -/
def eqS (a b : ByteArray) : Bool := a.toList == b.toList
theorem eqS_iff {a b : ByteArray} : eqS a b = true ↔ a = b := by
  unfold eqS
  rw [beq_iff_eq]
  exact ⟨toList_inj, fun h => by rw [h]⟩
theorem eqS_not {a b : ByteArray} : eqS a b = false ↔ a ≠ b := by
  rw [← Bool.not_eq_true, eqS_iff]
/-- The first error of a list. -/
def fstE {α : Type} (f : α → Int) : List α → Int
  | [] => 0
  | x :: r => if f x = 0 then fstE f r else f x
section
variable {α : Type} {f : α → Int} {l : List α} {k : Nat} {x : α}
theorem fst_bad {E : Int} (hx : l[k]? = some x) (h : fstE f l = fstE f (l.drop k)) (he : f x = E) (h0 : E ≠ 0) : fstE f l = E := by
  rw [h, drop_step hx]
  subst he
  simp only [fstE, if_neg h0]
theorem fst_next (hx : l[k]? = some x) (h : fstE f l = fstE f (l.drop k)) (he : f x = 0) : fstE f l = fstE f (l.drop (k + 1)) := by
  rw [h, drop_step hx]
  simp only [fstE, if_pos he]
theorem fst_end (hk : l.length ≤ k) (h : fstE f l = fstE f (l.drop k)) : fstE f l = 0 := by
  rw [h, List.drop_eq_nil_of_le hk]
  rfl
theorem fst_all : ∀ {l : List α}, fstE f l = 0 → ∀ x ∈ l, f x = 0
  | [], _, x, hx => by cases hx
  | y :: l, h, x, hx => by
    rw [fstE] at h
    split at h
    · rename_i h0
      rcases List.mem_cons.1 hx with rfl | hx
      · exact h0
      · exact fst_all h x hx
    · rename_i h0
      exact absurd h h0
end
def sE (x : Q4) : Int := if nameB x.s then (if inR 0 99 x.a && inR 0 3 x.b && inR 0 1000000 x.c then 0 else 2) else 4
def stockErr (l : List Q4) : Int := if 200 < l.length then 8 else fstE sE l
theorem sE_zero {x : Q4} (h : sE x = 0) : nameB x.s = true ∧ inR 0 99 x.a = true ∧ inR 0 3 x.b = true ∧ inR 0 1000000 x.c = true := by
  unfold sE at h
  cases h1 : nameB x.s <;> cases h2 : inR 0 99 x.a <;> cases h3 : inR 0 3 x.b <;> cases h4 : inR 0 1000000 x.c <;> simp [h1, h2, h3, h4] at h ⊢
theorem stock_all {l : List Q4} (h : stockErr l = 0) : l.length ≤ 200 ∧ ∀ x ∈ l, sE x = 0 := by
  unfold stockErr at h
  split at h
  · cases h
  · exact ⟨by omega, fst_all h⟩
set_option maxRecDepth 100000 in
set_option maxHeartbeats 8000000 in
theorem check_any (A : Option Addr) (n c : Nat) (l : List Q4) (w : World) (h : Rws Q4.cs 4 w w.heap.size A n c l) (hs : ∀ x ∈ l, x.s.size ≤ 30) :
    Calls Try.prog 18 #[.slice A n c] w fun e w' => Below w.heap.size w w' ∧ e = .returned (.int .i64 (stockErr l)) := by
    have hcap := h.cap
    have hmax := h.max
    have HLEN := Lib.hid h.len
    have HS := Lib.hid hs
    have H : Hid (∀ w', Below w.heap.size w w' → Rws Q4.cs 4 w' w.heap.size A n c l) := fun w' hb => h.below hb (Nat.le_refl _) (Nat.le_refl _)
    obtain ⟨R, hR⟩ : ∃ R, stockErr l = R := ⟨_, rfl⟩
    have HR0 := Lib.hid hR
    rw [hR]
    clear hR h hs
    by_cases hbig : 200 < n
    · obtain rfl : R = 8 := by rw [← HR0.out, stockErr, HLEN.out, if_pos hbig]
      go_enter Try.func18, Try.ntmps18
      go_wp2
      go_ret
      exact ⟨(by repeat (first | with_reducible exact Below.refl _ _ | with_reducible assumption | with_reducible refine Below.drew ?_ | with_reducible refine Below.drewN ?_ _ | with_reducible refine Below.alloc2 ?_ _ | with_reducible refine Below.alloc ?_ (by first | omega | (simp <;> omega)) _ | with_reducible refine Below.setCell ?_ (by first | omega | (simp <;> omega)) _ | with_reducible refine Below.step2 (by with_reducible assumption) ?_ | with_reducible refine Below.step (by with_reducible assumption) ?_ (by first | omega | (simp <;> omega)))), rfl⟩
    have HR : Hid (fstE sE l = R) := Lib.hid (by rw [← HR0.out, stockErr, HLEN.out, if_neg hbig])
    go_enter Try.func18, Try.ntmps18
    go_wp2
    go_loopw [4, 10] (fun _ i wr => ∃ k : Nat, k ≤ n ∧ i = .int .i64 k ∧ Hid (fstE sE l = fstE sE (l.drop k)) ∧ Below w.heap.size w wr) (fun _ i _ => n - (intOf i).toNat)
    case atStart => exact ⟨0, Nat.zero_le _, rfl, Lib.hid rfl, (by repeat (first | with_reducible exact Below.refl _ _ | with_reducible assumption | with_reducible refine Below.drew ?_ | with_reducible refine Below.drewN ?_ _ | with_reducible refine Below.alloc2 ?_ _ | with_reducible refine Below.alloc ?_ (by first | omega | (simp <;> omega)) _ | with_reducible refine Below.setCell ?_ (by first | omega | (simp <;> omega)) _ | with_reducible refine Below.step2 (by with_reducible assumption) ?_ | with_reducible refine Below.step (by with_reducible assumption) ?_ (by first | omega | (simp <;> omega))))⟩
    case round =>
      obtain ⟨k, hk, rfl, HV, hb⟩ := hrel
      have HB := Lib.hid hb
      have ow := hb.size
      by_cases hlt : k < n
      · obtain ⟨b, o, ⟨xs, xa, xb, xc⟩, rfl, hbb, hx, c0, c1, c2, c3⟩ := (H.out _ hb).q4 hlt
        dsimp only at c0 c1 c2 c3
        have HX := Lib.hid hx
        have hxs : xs.size ≤ 30 := HS.out _ (List.mem_of_getElem? hx)
        obtain ⟨v1, hv1⟩ : ∃ v, nameB xs = v := ⟨_, rfl⟩
        obtain ⟨v2, hv2⟩ : ∃ v, inR 0 99 xa = v := ⟨_, rfl⟩
        obtain ⟨v3, hv3⟩ : ∃ v, inR 0 3 xb = v := ⟨_, rfl⟩
        obtain ⟨v4, hv4⟩ : ∃ v, inR 0 1000000 xc = v := ⟨_, rfl⟩
        have HE : Hid (sE ⟨xs, xa, xb, xc⟩ = if v1 then (if v2 && v3 && v4 then 0 else 2) else 4) := Lib.hid (by simp only [sE, hv1, hv2, hv3, hv4])
        have HN := Lib.hid hv1
        have HR1 := Lib.hid hv2
        have HR2 := Lib.hid hv3
        have HR3 := Lib.hid hv4
        have ob : b < wr.heap.size := by omega
        clear hx hb hv1 hv2 hv3 hv4
        cases v1
        · (
                    go_wp2_with (first
          | (go_at_call 58; with_reducible refine (isName_any xs _ (by omega)).mono ?_; rw [HN.out]; rintro e w' ⟨rfl, rfl⟩)
          | (go_at_call 59; with_reducible refine (areFrom_one 0 99 xa _ _ ?_ _ HR1.out).mono ?_; (focus (refine (Bk.cell (t := 3) (cs := #[.int .i64 xa]) ?_ 0).trans rfl; exact (by repeat (first | with_reducible assumption | with_reducible exact Bk.at_ (by first | (simp; done) | omega) | with_reducible refine Bk.alloc ?_ _ | with_reducible refine Bk.drew ?_ | with_reducible refine Bk.drewN ?_ _ | with_reducible refine Bk.step (by with_reducible assumption) ?_ (by first | omega | (simp <;> omega)))))); rintro e w9 ⟨rfl, rfl⟩)
          | (go_at_call 59; with_reducible refine (areFrom_one 0 3 xb _ _ ?_ _ HR2.out).mono ?_; (focus (refine (Bk.cell (t := 3) (cs := #[.int .i64 xb]) ?_ 0).trans rfl; exact (by repeat (first | with_reducible assumption | with_reducible exact Bk.at_ (by first | (simp; done) | omega) | with_reducible refine Bk.alloc ?_ _ | with_reducible refine Bk.drew ?_ | with_reducible refine Bk.drewN ?_ _ | with_reducible refine Bk.step (by with_reducible assumption) ?_ (by first | omega | (simp <;> omega)))))); rintro e w9 ⟨rfl, rfl⟩)
          | (go_at_call 59; with_reducible refine (areFrom_one 0 1000000 xc _ _ ?_ _ HR3.out).mono ?_; (focus (refine (Bk.cell (t := 3) (cs := #[.int .i64 xc]) ?_ 0).trans rfl; exact (by repeat (first | with_reducible assumption | with_reducible exact Bk.at_ (by first | (simp; done) | omega) | with_reducible refine Bk.alloc ?_ _ | with_reducible refine Bk.drew ?_ | with_reducible refine Bk.drewN ?_ _ | with_reducible refine Bk.step (by with_reducible assumption) ?_ (by first | omega | (simp <;> omega)))))); rintro e w9 ⟨rfl, rfl⟩)
          | (go_at_call 56; with_reducible refine (refName_any xs _ (by omega)).mono ?_; rw [HN.out]; rintro e w' ⟨rfl, rfl⟩)
          | (go_at_call 57; with_reducible refine (within_b HR1.out _).mono ?_; rintro e w' ⟨rfl, rfl⟩)
          | (go_at_call 57; with_reducible refine (within_b HR2.out _).mono ?_; rintro e w' ⟨rfl, rfl⟩)
          | (go_at_call 57; with_reducible refine (within_b HR3.out _).mono ?_; rintro e w' ⟨rfl, rfl⟩))
                    go_ret
                    have hb0 := HB.out
                    refine ⟨(by repeat (first | with_reducible exact Below.refl _ _ | with_reducible assumption | with_reducible refine Below.drew ?_ | with_reducible refine Below.drewN ?_ _ | with_reducible refine Below.alloc2 ?_ _ | with_reducible refine Below.alloc ?_ (by first | omega | (simp <;> omega)) _ | with_reducible refine Below.setCell ?_ (by first | omega | (simp <;> omega)) _ | with_reducible refine Below.step2 (by with_reducible assumption) ?_ | with_reducible refine Below.step (by with_reducible assumption) ?_ (by first | omega | (simp <;> omega)))), ret_int ?_⟩
                    rw [← HR.out]
                    exact (fst_bad (E := 4) HX.out HV.out HE.out (by decide)).symm)
        cases v2
        · (
                    go_wp2_with (first
          | (go_at_call 58; with_reducible refine (isName_any xs _ (by omega)).mono ?_; rw [HN.out]; rintro e w' ⟨rfl, rfl⟩)
          | (go_at_call 59; with_reducible refine (areFrom_one 0 99 xa _ _ ?_ _ HR1.out).mono ?_; (focus (refine (Bk.cell (t := 3) (cs := #[.int .i64 xa]) ?_ 0).trans rfl; exact (by repeat (first | with_reducible assumption | with_reducible exact Bk.at_ (by first | (simp; done) | omega) | with_reducible refine Bk.alloc ?_ _ | with_reducible refine Bk.drew ?_ | with_reducible refine Bk.drewN ?_ _ | with_reducible refine Bk.step (by with_reducible assumption) ?_ (by first | omega | (simp <;> omega)))))); rintro e w9 ⟨rfl, rfl⟩)
          | (go_at_call 59; with_reducible refine (areFrom_one 0 3 xb _ _ ?_ _ HR2.out).mono ?_; (focus (refine (Bk.cell (t := 3) (cs := #[.int .i64 xb]) ?_ 0).trans rfl; exact (by repeat (first | with_reducible assumption | with_reducible exact Bk.at_ (by first | (simp; done) | omega) | with_reducible refine Bk.alloc ?_ _ | with_reducible refine Bk.drew ?_ | with_reducible refine Bk.drewN ?_ _ | with_reducible refine Bk.step (by with_reducible assumption) ?_ (by first | omega | (simp <;> omega)))))); rintro e w9 ⟨rfl, rfl⟩)
          | (go_at_call 59; with_reducible refine (areFrom_one 0 1000000 xc _ _ ?_ _ HR3.out).mono ?_; (focus (refine (Bk.cell (t := 3) (cs := #[.int .i64 xc]) ?_ 0).trans rfl; exact (by repeat (first | with_reducible assumption | with_reducible exact Bk.at_ (by first | (simp; done) | omega) | with_reducible refine Bk.alloc ?_ _ | with_reducible refine Bk.drew ?_ | with_reducible refine Bk.drewN ?_ _ | with_reducible refine Bk.step (by with_reducible assumption) ?_ (by first | omega | (simp <;> omega)))))); rintro e w9 ⟨rfl, rfl⟩)
          | (go_at_call 56; with_reducible refine (refName_any xs _ (by omega)).mono ?_; rw [HN.out]; rintro e w' ⟨rfl, rfl⟩)
          | (go_at_call 57; with_reducible refine (within_b HR1.out _).mono ?_; rintro e w' ⟨rfl, rfl⟩)
          | (go_at_call 57; with_reducible refine (within_b HR2.out _).mono ?_; rintro e w' ⟨rfl, rfl⟩)
          | (go_at_call 57; with_reducible refine (within_b HR3.out _).mono ?_; rintro e w' ⟨rfl, rfl⟩))
                    go_ret
                    have hb0 := HB.out
                    refine ⟨(by repeat (first | with_reducible exact Below.refl _ _ | with_reducible assumption | with_reducible refine Below.drew ?_ | with_reducible refine Below.drewN ?_ _ | with_reducible refine Below.alloc2 ?_ _ | with_reducible refine Below.alloc ?_ (by first | omega | (simp <;> omega)) _ | with_reducible refine Below.setCell ?_ (by first | omega | (simp <;> omega)) _ | with_reducible refine Below.step2 (by with_reducible assumption) ?_ | with_reducible refine Below.step (by with_reducible assumption) ?_ (by first | omega | (simp <;> omega)))), ret_int ?_⟩
                    rw [← HR.out]
                    exact (fst_bad (E := 2) HX.out HV.out HE.out (by decide)).symm)
        cases v3
        · (
                    go_wp2_with (first
          | (go_at_call 58; with_reducible refine (isName_any xs _ (by omega)).mono ?_; rw [HN.out]; rintro e w' ⟨rfl, rfl⟩)
          | (go_at_call 59; with_reducible refine (areFrom_one 0 99 xa _ _ ?_ _ HR1.out).mono ?_; (focus (refine (Bk.cell (t := 3) (cs := #[.int .i64 xa]) ?_ 0).trans rfl; exact (by repeat (first | with_reducible assumption | with_reducible exact Bk.at_ (by first | (simp; done) | omega) | with_reducible refine Bk.alloc ?_ _ | with_reducible refine Bk.drew ?_ | with_reducible refine Bk.drewN ?_ _ | with_reducible refine Bk.step (by with_reducible assumption) ?_ (by first | omega | (simp <;> omega)))))); rintro e w9 ⟨rfl, rfl⟩)
          | (go_at_call 59; with_reducible refine (areFrom_one 0 3 xb _ _ ?_ _ HR2.out).mono ?_; (focus (refine (Bk.cell (t := 3) (cs := #[.int .i64 xb]) ?_ 0).trans rfl; exact (by repeat (first | with_reducible assumption | with_reducible exact Bk.at_ (by first | (simp; done) | omega) | with_reducible refine Bk.alloc ?_ _ | with_reducible refine Bk.drew ?_ | with_reducible refine Bk.drewN ?_ _ | with_reducible refine Bk.step (by with_reducible assumption) ?_ (by first | omega | (simp <;> omega)))))); rintro e w9 ⟨rfl, rfl⟩)
          | (go_at_call 59; with_reducible refine (areFrom_one 0 1000000 xc _ _ ?_ _ HR3.out).mono ?_; (focus (refine (Bk.cell (t := 3) (cs := #[.int .i64 xc]) ?_ 0).trans rfl; exact (by repeat (first | with_reducible assumption | with_reducible exact Bk.at_ (by first | (simp; done) | omega) | with_reducible refine Bk.alloc ?_ _ | with_reducible refine Bk.drew ?_ | with_reducible refine Bk.drewN ?_ _ | with_reducible refine Bk.step (by with_reducible assumption) ?_ (by first | omega | (simp <;> omega)))))); rintro e w9 ⟨rfl, rfl⟩)
          | (go_at_call 56; with_reducible refine (refName_any xs _ (by omega)).mono ?_; rw [HN.out]; rintro e w' ⟨rfl, rfl⟩)
          | (go_at_call 57; with_reducible refine (within_b HR1.out _).mono ?_; rintro e w' ⟨rfl, rfl⟩)
          | (go_at_call 57; with_reducible refine (within_b HR2.out _).mono ?_; rintro e w' ⟨rfl, rfl⟩)
          | (go_at_call 57; with_reducible refine (within_b HR3.out _).mono ?_; rintro e w' ⟨rfl, rfl⟩))
                    go_ret
                    have hb0 := HB.out
                    refine ⟨(by repeat (first | with_reducible exact Below.refl _ _ | with_reducible assumption | with_reducible refine Below.drew ?_ | with_reducible refine Below.drewN ?_ _ | with_reducible refine Below.alloc2 ?_ _ | with_reducible refine Below.alloc ?_ (by first | omega | (simp <;> omega)) _ | with_reducible refine Below.setCell ?_ (by first | omega | (simp <;> omega)) _ | with_reducible refine Below.step2 (by with_reducible assumption) ?_ | with_reducible refine Below.step (by with_reducible assumption) ?_ (by first | omega | (simp <;> omega)))), ret_int ?_⟩
                    rw [← HR.out]
                    exact (fst_bad (E := 2) HX.out HV.out HE.out (by decide)).symm)
        cases v4
        · (
                    go_wp2_with (first
          | (go_at_call 58; with_reducible refine (isName_any xs _ (by omega)).mono ?_; rw [HN.out]; rintro e w' ⟨rfl, rfl⟩)
          | (go_at_call 59; with_reducible refine (areFrom_one 0 99 xa _ _ ?_ _ HR1.out).mono ?_; (focus (refine (Bk.cell (t := 3) (cs := #[.int .i64 xa]) ?_ 0).trans rfl; exact (by repeat (first | with_reducible assumption | with_reducible exact Bk.at_ (by first | (simp; done) | omega) | with_reducible refine Bk.alloc ?_ _ | with_reducible refine Bk.drew ?_ | with_reducible refine Bk.drewN ?_ _ | with_reducible refine Bk.step (by with_reducible assumption) ?_ (by first | omega | (simp <;> omega)))))); rintro e w9 ⟨rfl, rfl⟩)
          | (go_at_call 59; with_reducible refine (areFrom_one 0 3 xb _ _ ?_ _ HR2.out).mono ?_; (focus (refine (Bk.cell (t := 3) (cs := #[.int .i64 xb]) ?_ 0).trans rfl; exact (by repeat (first | with_reducible assumption | with_reducible exact Bk.at_ (by first | (simp; done) | omega) | with_reducible refine Bk.alloc ?_ _ | with_reducible refine Bk.drew ?_ | with_reducible refine Bk.drewN ?_ _ | with_reducible refine Bk.step (by with_reducible assumption) ?_ (by first | omega | (simp <;> omega)))))); rintro e w9 ⟨rfl, rfl⟩)
          | (go_at_call 59; with_reducible refine (areFrom_one 0 1000000 xc _ _ ?_ _ HR3.out).mono ?_; (focus (refine (Bk.cell (t := 3) (cs := #[.int .i64 xc]) ?_ 0).trans rfl; exact (by repeat (first | with_reducible assumption | with_reducible exact Bk.at_ (by first | (simp; done) | omega) | with_reducible refine Bk.alloc ?_ _ | with_reducible refine Bk.drew ?_ | with_reducible refine Bk.drewN ?_ _ | with_reducible refine Bk.step (by with_reducible assumption) ?_ (by first | omega | (simp <;> omega)))))); rintro e w9 ⟨rfl, rfl⟩)
          | (go_at_call 56; with_reducible refine (refName_any xs _ (by omega)).mono ?_; rw [HN.out]; rintro e w' ⟨rfl, rfl⟩)
          | (go_at_call 57; with_reducible refine (within_b HR1.out _).mono ?_; rintro e w' ⟨rfl, rfl⟩)
          | (go_at_call 57; with_reducible refine (within_b HR2.out _).mono ?_; rintro e w' ⟨rfl, rfl⟩)
          | (go_at_call 57; with_reducible refine (within_b HR3.out _).mono ?_; rintro e w' ⟨rfl, rfl⟩))
                    go_ret
                    have hb0 := HB.out
                    refine ⟨(by repeat (first | with_reducible exact Below.refl _ _ | with_reducible assumption | with_reducible refine Below.drew ?_ | with_reducible refine Below.drewN ?_ _ | with_reducible refine Below.alloc2 ?_ _ | with_reducible refine Below.alloc ?_ (by first | omega | (simp <;> omega)) _ | with_reducible refine Below.setCell ?_ (by first | omega | (simp <;> omega)) _ | with_reducible refine Below.step2 (by with_reducible assumption) ?_ | with_reducible refine Below.step (by with_reducible assumption) ?_ (by first | omega | (simp <;> omega)))), ret_int ?_⟩
                    rw [← HR.out]
                    exact (fst_bad (E := 2) HX.out HV.out HE.out (by decide)).symm)
        · go_wp2_with (first
  | (go_at_call 58; with_reducible refine (isName_any xs _ (by omega)).mono ?_; rw [HN.out]; rintro e w' ⟨rfl, rfl⟩)
  | (go_at_call 59; with_reducible refine (areFrom_one 0 99 xa _ _ ?_ _ HR1.out).mono ?_; (focus (refine (Bk.cell (t := 3) (cs := #[.int .i64 xa]) ?_ 0).trans rfl; exact (by repeat (first | with_reducible assumption | with_reducible exact Bk.at_ (by first | (simp; done) | omega) | with_reducible refine Bk.alloc ?_ _ | with_reducible refine Bk.drew ?_ | with_reducible refine Bk.drewN ?_ _ | with_reducible refine Bk.step (by with_reducible assumption) ?_ (by first | omega | (simp <;> omega)))))); rintro e w9 ⟨rfl, rfl⟩)
  | (go_at_call 59; with_reducible refine (areFrom_one 0 3 xb _ _ ?_ _ HR2.out).mono ?_; (focus (refine (Bk.cell (t := 3) (cs := #[.int .i64 xb]) ?_ 0).trans rfl; exact (by repeat (first | with_reducible assumption | with_reducible exact Bk.at_ (by first | (simp; done) | omega) | with_reducible refine Bk.alloc ?_ _ | with_reducible refine Bk.drew ?_ | with_reducible refine Bk.drewN ?_ _ | with_reducible refine Bk.step (by with_reducible assumption) ?_ (by first | omega | (simp <;> omega)))))); rintro e w9 ⟨rfl, rfl⟩)
  | (go_at_call 59; with_reducible refine (areFrom_one 0 1000000 xc _ _ ?_ _ HR3.out).mono ?_; (focus (refine (Bk.cell (t := 3) (cs := #[.int .i64 xc]) ?_ 0).trans rfl; exact (by repeat (first | with_reducible assumption | with_reducible exact Bk.at_ (by first | (simp; done) | omega) | with_reducible refine Bk.alloc ?_ _ | with_reducible refine Bk.drew ?_ | with_reducible refine Bk.drewN ?_ _ | with_reducible refine Bk.step (by with_reducible assumption) ?_ (by first | omega | (simp <;> omega)))))); rintro e w9 ⟨rfl, rfl⟩)
  | (go_at_call 56; with_reducible refine (refName_any xs _ (by omega)).mono ?_; rw [HN.out]; rintro e w' ⟨rfl, rfl⟩)
  | (go_at_call 57; with_reducible refine (within_b HR1.out _).mono ?_; rintro e w' ⟨rfl, rfl⟩)
  | (go_at_call 57; with_reducible refine (within_b HR2.out _).mono ?_; rintro e w' ⟨rfl, rfl⟩)
  | (go_at_call 57; with_reducible refine (within_b HR3.out _).mono ?_; rintro e w' ⟨rfl, rfl⟩))
          go_roundw
          case rel =>
            have hb0 := HB.out
            exact ⟨k + 1, by omega, by go_num, Lib.hid (fst_next HX.out HV.out HE.out), (by repeat (first | with_reducible exact Below.refl _ _ | with_reducible assumption | with_reducible refine Below.drew ?_ | with_reducible refine Below.drewN ?_ _ | with_reducible refine Below.alloc2 ?_ _ | with_reducible refine Below.alloc ?_ (by first | omega | (simp <;> omega)) _ | with_reducible refine Below.setCell ?_ (by first | omega | (simp <;> omega)) _ | with_reducible refine Below.step2 (by with_reducible assumption) ?_ | with_reducible refine Below.step (by with_reducible assumption) ?_ (by first | omega | (simp <;> omega))))⟩
          case measure => simp [intOf]; omega
      · go_wp2
        go_ret
        refine ⟨HB.out, ret_int ?_⟩
        rw [← HR.out]
        exact (fst_end (by rw [HLEN.out]; omega) HV.out).symm
set_option maxRecDepth 100000 in
set_option maxHeartbeats 8000000 in
theorem refCheck_any (A : Option Addr) (n c : Nat) (l : List Q4) (w : World) (h : Rws Q4.cs 4 w w.heap.size A n c l) (hs : ∀ x ∈ l, x.s.size ≤ 30) :
    Calls Try.prog 17 #[.slice A n c] w fun e w' => Below w.heap.size w w' ∧ e = .returned (.int .i64 (stockErr l)) := by
    have hcap := h.cap
    have hmax := h.max
    have HLEN := Lib.hid h.len
    have HS := Lib.hid hs
    have H : Hid (∀ w', Below w.heap.size w w' → Rws Q4.cs 4 w' w.heap.size A n c l) := fun w' hb => h.below hb (Nat.le_refl _) (Nat.le_refl _)
    obtain ⟨R, hR⟩ : ∃ R, stockErr l = R := ⟨_, rfl⟩
    have HR0 := Lib.hid hR
    rw [hR]
    clear hR h hs
    by_cases hbig : 200 < n
    · obtain rfl : R = 8 := by rw [← HR0.out, stockErr, HLEN.out, if_pos hbig]
      go_enter Try.func17, Try.ntmps17
      go_wp2
      go_ret
      exact ⟨(by repeat (first | with_reducible exact Below.refl _ _ | with_reducible assumption | with_reducible refine Below.drew ?_ | with_reducible refine Below.drewN ?_ _ | with_reducible refine Below.alloc2 ?_ _ | with_reducible refine Below.alloc ?_ (by first | omega | (simp <;> omega)) _ | with_reducible refine Below.setCell ?_ (by first | omega | (simp <;> omega)) _ | with_reducible refine Below.step2 (by with_reducible assumption) ?_ | with_reducible refine Below.step (by with_reducible assumption) ?_ (by first | omega | (simp <;> omega)))), rfl⟩
    have HR : Hid (fstE sE l = R) := Lib.hid (by rw [← HR0.out, stockErr, HLEN.out, if_neg hbig])
    go_enter Try.func17, Try.ntmps17
    go_wp2
    go_loopw [3] (fun i wr => ∃ k : Nat, k ≤ n ∧ i = .int .i64 k ∧ Hid (fstE sE l = fstE sE (l.drop k)) ∧ Below w.heap.size w wr) (fun i _ => n - (intOf i).toNat)
    case atStart => exact ⟨0, Nat.zero_le _, rfl, Lib.hid rfl, (by repeat (first | with_reducible exact Below.refl _ _ | with_reducible assumption | with_reducible refine Below.drew ?_ | with_reducible refine Below.drewN ?_ _ | with_reducible refine Below.alloc2 ?_ _ | with_reducible refine Below.alloc ?_ (by first | omega | (simp <;> omega)) _ | with_reducible refine Below.setCell ?_ (by first | omega | (simp <;> omega)) _ | with_reducible refine Below.step2 (by with_reducible assumption) ?_ | with_reducible refine Below.step (by with_reducible assumption) ?_ (by first | omega | (simp <;> omega))))⟩
    case round =>
      obtain ⟨k, hk, rfl, HV, hb⟩ := hrel
      have HB := Lib.hid hb
      have ow := hb.size
      by_cases hlt : k < n
      · obtain ⟨b, o, ⟨xs, xa, xb, xc⟩, rfl, hbb, hx, c0, c1, c2, c3⟩ := (H.out _ hb).q4 hlt
        dsimp only at c0 c1 c2 c3
        have HX := Lib.hid hx
        have hxs : xs.size ≤ 30 := HS.out _ (List.mem_of_getElem? hx)
        obtain ⟨v1, hv1⟩ : ∃ v, nameB xs = v := ⟨_, rfl⟩
        obtain ⟨v2, hv2⟩ : ∃ v, inR 0 99 xa = v := ⟨_, rfl⟩
        obtain ⟨v3, hv3⟩ : ∃ v, inR 0 3 xb = v := ⟨_, rfl⟩
        obtain ⟨v4, hv4⟩ : ∃ v, inR 0 1000000 xc = v := ⟨_, rfl⟩
        have HE : Hid (sE ⟨xs, xa, xb, xc⟩ = if v1 then (if v2 && v3 && v4 then 0 else 2) else 4) := Lib.hid (by simp only [sE, hv1, hv2, hv3, hv4])
        have HN := Lib.hid hv1
        have HR1 := Lib.hid hv2
        have HR2 := Lib.hid hv3
        have HR3 := Lib.hid hv4
        have ob : b < wr.heap.size := by omega
        clear hx hb hv1 hv2 hv3 hv4
        cases v1
        · (
                    go_wp2_with (first
          | (go_at_call 58; with_reducible refine (isName_any xs _ (by omega)).mono ?_; rw [HN.out]; rintro e w' ⟨rfl, rfl⟩)
          | (go_at_call 59; with_reducible refine (areFrom_one 0 99 xa _ _ ?_ _ HR1.out).mono ?_; (focus (refine (Bk.cell (t := 3) (cs := #[.int .i64 xa]) ?_ 0).trans rfl; exact (by repeat (first | with_reducible assumption | with_reducible exact Bk.at_ (by first | (simp; done) | omega) | with_reducible refine Bk.alloc ?_ _ | with_reducible refine Bk.drew ?_ | with_reducible refine Bk.drewN ?_ _ | with_reducible refine Bk.step (by with_reducible assumption) ?_ (by first | omega | (simp <;> omega)))))); rintro e w9 ⟨rfl, rfl⟩)
          | (go_at_call 59; with_reducible refine (areFrom_one 0 3 xb _ _ ?_ _ HR2.out).mono ?_; (focus (refine (Bk.cell (t := 3) (cs := #[.int .i64 xb]) ?_ 0).trans rfl; exact (by repeat (first | with_reducible assumption | with_reducible exact Bk.at_ (by first | (simp; done) | omega) | with_reducible refine Bk.alloc ?_ _ | with_reducible refine Bk.drew ?_ | with_reducible refine Bk.drewN ?_ _ | with_reducible refine Bk.step (by with_reducible assumption) ?_ (by first | omega | (simp <;> omega)))))); rintro e w9 ⟨rfl, rfl⟩)
          | (go_at_call 59; with_reducible refine (areFrom_one 0 1000000 xc _ _ ?_ _ HR3.out).mono ?_; (focus (refine (Bk.cell (t := 3) (cs := #[.int .i64 xc]) ?_ 0).trans rfl; exact (by repeat (first | with_reducible assumption | with_reducible exact Bk.at_ (by first | (simp; done) | omega) | with_reducible refine Bk.alloc ?_ _ | with_reducible refine Bk.drew ?_ | with_reducible refine Bk.drewN ?_ _ | with_reducible refine Bk.step (by with_reducible assumption) ?_ (by first | omega | (simp <;> omega)))))); rintro e w9 ⟨rfl, rfl⟩)
          | (go_at_call 56; with_reducible refine (refName_any xs _ (by omega)).mono ?_; rw [HN.out]; rintro e w' ⟨rfl, rfl⟩)
          | (go_at_call 57; with_reducible refine (within_b HR1.out _).mono ?_; rintro e w' ⟨rfl, rfl⟩)
          | (go_at_call 57; with_reducible refine (within_b HR2.out _).mono ?_; rintro e w' ⟨rfl, rfl⟩)
          | (go_at_call 57; with_reducible refine (within_b HR3.out _).mono ?_; rintro e w' ⟨rfl, rfl⟩))
                    go_ret
                    have hb0 := HB.out
                    refine ⟨(by repeat (first | with_reducible exact Below.refl _ _ | with_reducible assumption | with_reducible refine Below.drew ?_ | with_reducible refine Below.drewN ?_ _ | with_reducible refine Below.alloc2 ?_ _ | with_reducible refine Below.alloc ?_ (by first | omega | (simp <;> omega)) _ | with_reducible refine Below.setCell ?_ (by first | omega | (simp <;> omega)) _ | with_reducible refine Below.step2 (by with_reducible assumption) ?_ | with_reducible refine Below.step (by with_reducible assumption) ?_ (by first | omega | (simp <;> omega)))), ret_int ?_⟩
                    rw [← HR.out]
                    exact (fst_bad (E := 4) HX.out HV.out HE.out (by decide)).symm)
        cases v2
        · (
                    go_wp2_with (first
          | (go_at_call 58; with_reducible refine (isName_any xs _ (by omega)).mono ?_; rw [HN.out]; rintro e w' ⟨rfl, rfl⟩)
          | (go_at_call 59; with_reducible refine (areFrom_one 0 99 xa _ _ ?_ _ HR1.out).mono ?_; (focus (refine (Bk.cell (t := 3) (cs := #[.int .i64 xa]) ?_ 0).trans rfl; exact (by repeat (first | with_reducible assumption | with_reducible exact Bk.at_ (by first | (simp; done) | omega) | with_reducible refine Bk.alloc ?_ _ | with_reducible refine Bk.drew ?_ | with_reducible refine Bk.drewN ?_ _ | with_reducible refine Bk.step (by with_reducible assumption) ?_ (by first | omega | (simp <;> omega)))))); rintro e w9 ⟨rfl, rfl⟩)
          | (go_at_call 59; with_reducible refine (areFrom_one 0 3 xb _ _ ?_ _ HR2.out).mono ?_; (focus (refine (Bk.cell (t := 3) (cs := #[.int .i64 xb]) ?_ 0).trans rfl; exact (by repeat (first | with_reducible assumption | with_reducible exact Bk.at_ (by first | (simp; done) | omega) | with_reducible refine Bk.alloc ?_ _ | with_reducible refine Bk.drew ?_ | with_reducible refine Bk.drewN ?_ _ | with_reducible refine Bk.step (by with_reducible assumption) ?_ (by first | omega | (simp <;> omega)))))); rintro e w9 ⟨rfl, rfl⟩)
          | (go_at_call 59; with_reducible refine (areFrom_one 0 1000000 xc _ _ ?_ _ HR3.out).mono ?_; (focus (refine (Bk.cell (t := 3) (cs := #[.int .i64 xc]) ?_ 0).trans rfl; exact (by repeat (first | with_reducible assumption | with_reducible exact Bk.at_ (by first | (simp; done) | omega) | with_reducible refine Bk.alloc ?_ _ | with_reducible refine Bk.drew ?_ | with_reducible refine Bk.drewN ?_ _ | with_reducible refine Bk.step (by with_reducible assumption) ?_ (by first | omega | (simp <;> omega)))))); rintro e w9 ⟨rfl, rfl⟩)
          | (go_at_call 56; with_reducible refine (refName_any xs _ (by omega)).mono ?_; rw [HN.out]; rintro e w' ⟨rfl, rfl⟩)
          | (go_at_call 57; with_reducible refine (within_b HR1.out _).mono ?_; rintro e w' ⟨rfl, rfl⟩)
          | (go_at_call 57; with_reducible refine (within_b HR2.out _).mono ?_; rintro e w' ⟨rfl, rfl⟩)
          | (go_at_call 57; with_reducible refine (within_b HR3.out _).mono ?_; rintro e w' ⟨rfl, rfl⟩))
                    go_ret
                    have hb0 := HB.out
                    refine ⟨(by repeat (first | with_reducible exact Below.refl _ _ | with_reducible assumption | with_reducible refine Below.drew ?_ | with_reducible refine Below.drewN ?_ _ | with_reducible refine Below.alloc2 ?_ _ | with_reducible refine Below.alloc ?_ (by first | omega | (simp <;> omega)) _ | with_reducible refine Below.setCell ?_ (by first | omega | (simp <;> omega)) _ | with_reducible refine Below.step2 (by with_reducible assumption) ?_ | with_reducible refine Below.step (by with_reducible assumption) ?_ (by first | omega | (simp <;> omega)))), ret_int ?_⟩
                    rw [← HR.out]
                    exact (fst_bad (E := 2) HX.out HV.out HE.out (by decide)).symm)
        cases v3
        · (
                    go_wp2_with (first
          | (go_at_call 58; with_reducible refine (isName_any xs _ (by omega)).mono ?_; rw [HN.out]; rintro e w' ⟨rfl, rfl⟩)
          | (go_at_call 59; with_reducible refine (areFrom_one 0 99 xa _ _ ?_ _ HR1.out).mono ?_; (focus (refine (Bk.cell (t := 3) (cs := #[.int .i64 xa]) ?_ 0).trans rfl; exact (by repeat (first | with_reducible assumption | with_reducible exact Bk.at_ (by first | (simp; done) | omega) | with_reducible refine Bk.alloc ?_ _ | with_reducible refine Bk.drew ?_ | with_reducible refine Bk.drewN ?_ _ | with_reducible refine Bk.step (by with_reducible assumption) ?_ (by first | omega | (simp <;> omega)))))); rintro e w9 ⟨rfl, rfl⟩)
          | (go_at_call 59; with_reducible refine (areFrom_one 0 3 xb _ _ ?_ _ HR2.out).mono ?_; (focus (refine (Bk.cell (t := 3) (cs := #[.int .i64 xb]) ?_ 0).trans rfl; exact (by repeat (first | with_reducible assumption | with_reducible exact Bk.at_ (by first | (simp; done) | omega) | with_reducible refine Bk.alloc ?_ _ | with_reducible refine Bk.drew ?_ | with_reducible refine Bk.drewN ?_ _ | with_reducible refine Bk.step (by with_reducible assumption) ?_ (by first | omega | (simp <;> omega)))))); rintro e w9 ⟨rfl, rfl⟩)
          | (go_at_call 59; with_reducible refine (areFrom_one 0 1000000 xc _ _ ?_ _ HR3.out).mono ?_; (focus (refine (Bk.cell (t := 3) (cs := #[.int .i64 xc]) ?_ 0).trans rfl; exact (by repeat (first | with_reducible assumption | with_reducible exact Bk.at_ (by first | (simp; done) | omega) | with_reducible refine Bk.alloc ?_ _ | with_reducible refine Bk.drew ?_ | with_reducible refine Bk.drewN ?_ _ | with_reducible refine Bk.step (by with_reducible assumption) ?_ (by first | omega | (simp <;> omega)))))); rintro e w9 ⟨rfl, rfl⟩)
          | (go_at_call 56; with_reducible refine (refName_any xs _ (by omega)).mono ?_; rw [HN.out]; rintro e w' ⟨rfl, rfl⟩)
          | (go_at_call 57; with_reducible refine (within_b HR1.out _).mono ?_; rintro e w' ⟨rfl, rfl⟩)
          | (go_at_call 57; with_reducible refine (within_b HR2.out _).mono ?_; rintro e w' ⟨rfl, rfl⟩)
          | (go_at_call 57; with_reducible refine (within_b HR3.out _).mono ?_; rintro e w' ⟨rfl, rfl⟩))
                    go_ret
                    have hb0 := HB.out
                    refine ⟨(by repeat (first | with_reducible exact Below.refl _ _ | with_reducible assumption | with_reducible refine Below.drew ?_ | with_reducible refine Below.drewN ?_ _ | with_reducible refine Below.alloc2 ?_ _ | with_reducible refine Below.alloc ?_ (by first | omega | (simp <;> omega)) _ | with_reducible refine Below.setCell ?_ (by first | omega | (simp <;> omega)) _ | with_reducible refine Below.step2 (by with_reducible assumption) ?_ | with_reducible refine Below.step (by with_reducible assumption) ?_ (by first | omega | (simp <;> omega)))), ret_int ?_⟩
                    rw [← HR.out]
                    exact (fst_bad (E := 2) HX.out HV.out HE.out (by decide)).symm)
        cases v4
        · (
                    go_wp2_with (first
          | (go_at_call 58; with_reducible refine (isName_any xs _ (by omega)).mono ?_; rw [HN.out]; rintro e w' ⟨rfl, rfl⟩)
          | (go_at_call 59; with_reducible refine (areFrom_one 0 99 xa _ _ ?_ _ HR1.out).mono ?_; (focus (refine (Bk.cell (t := 3) (cs := #[.int .i64 xa]) ?_ 0).trans rfl; exact (by repeat (first | with_reducible assumption | with_reducible exact Bk.at_ (by first | (simp; done) | omega) | with_reducible refine Bk.alloc ?_ _ | with_reducible refine Bk.drew ?_ | with_reducible refine Bk.drewN ?_ _ | with_reducible refine Bk.step (by with_reducible assumption) ?_ (by first | omega | (simp <;> omega)))))); rintro e w9 ⟨rfl, rfl⟩)
          | (go_at_call 59; with_reducible refine (areFrom_one 0 3 xb _ _ ?_ _ HR2.out).mono ?_; (focus (refine (Bk.cell (t := 3) (cs := #[.int .i64 xb]) ?_ 0).trans rfl; exact (by repeat (first | with_reducible assumption | with_reducible exact Bk.at_ (by first | (simp; done) | omega) | with_reducible refine Bk.alloc ?_ _ | with_reducible refine Bk.drew ?_ | with_reducible refine Bk.drewN ?_ _ | with_reducible refine Bk.step (by with_reducible assumption) ?_ (by first | omega | (simp <;> omega)))))); rintro e w9 ⟨rfl, rfl⟩)
          | (go_at_call 59; with_reducible refine (areFrom_one 0 1000000 xc _ _ ?_ _ HR3.out).mono ?_; (focus (refine (Bk.cell (t := 3) (cs := #[.int .i64 xc]) ?_ 0).trans rfl; exact (by repeat (first | with_reducible assumption | with_reducible exact Bk.at_ (by first | (simp; done) | omega) | with_reducible refine Bk.alloc ?_ _ | with_reducible refine Bk.drew ?_ | with_reducible refine Bk.drewN ?_ _ | with_reducible refine Bk.step (by with_reducible assumption) ?_ (by first | omega | (simp <;> omega)))))); rintro e w9 ⟨rfl, rfl⟩)
          | (go_at_call 56; with_reducible refine (refName_any xs _ (by omega)).mono ?_; rw [HN.out]; rintro e w' ⟨rfl, rfl⟩)
          | (go_at_call 57; with_reducible refine (within_b HR1.out _).mono ?_; rintro e w' ⟨rfl, rfl⟩)
          | (go_at_call 57; with_reducible refine (within_b HR2.out _).mono ?_; rintro e w' ⟨rfl, rfl⟩)
          | (go_at_call 57; with_reducible refine (within_b HR3.out _).mono ?_; rintro e w' ⟨rfl, rfl⟩))
                    go_ret
                    have hb0 := HB.out
                    refine ⟨(by repeat (first | with_reducible exact Below.refl _ _ | with_reducible assumption | with_reducible refine Below.drew ?_ | with_reducible refine Below.drewN ?_ _ | with_reducible refine Below.alloc2 ?_ _ | with_reducible refine Below.alloc ?_ (by first | omega | (simp <;> omega)) _ | with_reducible refine Below.setCell ?_ (by first | omega | (simp <;> omega)) _ | with_reducible refine Below.step2 (by with_reducible assumption) ?_ | with_reducible refine Below.step (by with_reducible assumption) ?_ (by first | omega | (simp <;> omega)))), ret_int ?_⟩
                    rw [← HR.out]
                    exact (fst_bad (E := 2) HX.out HV.out HE.out (by decide)).symm)
        · go_wp2_with (first
  | (go_at_call 58; with_reducible refine (isName_any xs _ (by omega)).mono ?_; rw [HN.out]; rintro e w' ⟨rfl, rfl⟩)
  | (go_at_call 59; with_reducible refine (areFrom_one 0 99 xa _ _ ?_ _ HR1.out).mono ?_; (focus (refine (Bk.cell (t := 3) (cs := #[.int .i64 xa]) ?_ 0).trans rfl; exact (by repeat (first | with_reducible assumption | with_reducible exact Bk.at_ (by first | (simp; done) | omega) | with_reducible refine Bk.alloc ?_ _ | with_reducible refine Bk.drew ?_ | with_reducible refine Bk.drewN ?_ _ | with_reducible refine Bk.step (by with_reducible assumption) ?_ (by first | omega | (simp <;> omega)))))); rintro e w9 ⟨rfl, rfl⟩)
  | (go_at_call 59; with_reducible refine (areFrom_one 0 3 xb _ _ ?_ _ HR2.out).mono ?_; (focus (refine (Bk.cell (t := 3) (cs := #[.int .i64 xb]) ?_ 0).trans rfl; exact (by repeat (first | with_reducible assumption | with_reducible exact Bk.at_ (by first | (simp; done) | omega) | with_reducible refine Bk.alloc ?_ _ | with_reducible refine Bk.drew ?_ | with_reducible refine Bk.drewN ?_ _ | with_reducible refine Bk.step (by with_reducible assumption) ?_ (by first | omega | (simp <;> omega)))))); rintro e w9 ⟨rfl, rfl⟩)
  | (go_at_call 59; with_reducible refine (areFrom_one 0 1000000 xc _ _ ?_ _ HR3.out).mono ?_; (focus (refine (Bk.cell (t := 3) (cs := #[.int .i64 xc]) ?_ 0).trans rfl; exact (by repeat (first | with_reducible assumption | with_reducible exact Bk.at_ (by first | (simp; done) | omega) | with_reducible refine Bk.alloc ?_ _ | with_reducible refine Bk.drew ?_ | with_reducible refine Bk.drewN ?_ _ | with_reducible refine Bk.step (by with_reducible assumption) ?_ (by first | omega | (simp <;> omega)))))); rintro e w9 ⟨rfl, rfl⟩)
  | (go_at_call 56; with_reducible refine (refName_any xs _ (by omega)).mono ?_; rw [HN.out]; rintro e w' ⟨rfl, rfl⟩)
  | (go_at_call 57; with_reducible refine (within_b HR1.out _).mono ?_; rintro e w' ⟨rfl, rfl⟩)
  | (go_at_call 57; with_reducible refine (within_b HR2.out _).mono ?_; rintro e w' ⟨rfl, rfl⟩)
  | (go_at_call 57; with_reducible refine (within_b HR3.out _).mono ?_; rintro e w' ⟨rfl, rfl⟩))
          go_roundw
          case rel =>
            have hb0 := HB.out
            exact ⟨k + 1, by omega, by go_num, Lib.hid (fst_next HX.out HV.out HE.out), (by repeat (first | with_reducible exact Below.refl _ _ | with_reducible assumption | with_reducible refine Below.drew ?_ | with_reducible refine Below.drewN ?_ _ | with_reducible refine Below.alloc2 ?_ _ | with_reducible refine Below.alloc ?_ (by first | omega | (simp <;> omega)) _ | with_reducible refine Below.setCell ?_ (by first | omega | (simp <;> omega)) _ | with_reducible refine Below.step2 (by with_reducible assumption) ?_ | with_reducible refine Below.step (by with_reducible assumption) ?_ (by first | omega | (simp <;> omega))))⟩
          case measure => simp [intOf]; omega
      · go_wp2
        go_ret
        refine ⟨HB.out, ret_int ?_⟩
        rw [← HR.out]
        exact (fst_end (by rw [HLEN.out]; omega) HV.out).symm

end Go.Proofs.Ytmcefodfppdajaa
