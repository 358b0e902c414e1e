/- Chapter 9, walks: CheckTerms of the program. -/
import Derived.Test.YtgjjjnofdjhikaaName9
import Derived.Test.YtgjjjnofdjhikaaKinds9
import Derived.Test.YtgjjjnofdjhikaaMapK
import Derived.StringKeys
import Derived.Carry
namespace Go.Proofs.Ytgjjjnofdjhikaa
open Go.RowKit Go.Maps

/-- Equal texts, as Go asks. -/
def eqS (a b : ByteArray) : Bool := a.toList == b.toList
theorem eqS_iff {a b : ByteArray} : eqS a b = true ↔ a = b := by
  unfold eqS
  rw [beq_iff_eq, ByteArray.toList_eq, ByteArray.toList_eq]
  constructor
  · intro h
    cases a
    cases b
    simpa using h
  · intro h
    rw [h]
theorem eqS_not {a b : ByteArray} : eqS a b = false ↔ a ≠ b := by
  rw [← Bool.not_eq_true, eqS_iff]
/-- Texts as keys. -/
def strV (s : ByteArray) : Value := .string s
def strOk (s : ByteArray) : Prop := s.size ≤ 1000
theorem str_keys : KeyT Try.prog 9 strV strOk :=
  ⟨string_keyed Try.underlying9, fun x hx => by
    have h := WideMaps.keyOf_string_mk (P := Try.prog) Try.underlying9 (s := x) (by unfold maxLen; unfold strOk at hx; omega)
    unfold KL strV
    rw [h]
    rfl, fun x y h => by unfold strV at h; injection h⟩
theorem zero_int (w : World) : (zeroValue 3).run Try.prog w = .ok (.int .i64 0) w := by kernel_rfl
theorem zero_bool (w : World) : (zeroValue 4).run Try.prog w = .ok (.bool false) w := by kernel_rfl

/-- Whether a term is of a part; the error of a term behind others; of terms. -/
def hasT (l : List Q4) (p : ByteArray) : Bool := l.any fun y => eqS y.s p
def rngT (x : Q4) : Bool := inR 0 1000000 x.a && inR 0 1000000 x.c && inR 0 520 x.b
def tE (seen : List Q4) (x : Q4) : Int := if nameB x.s then (if hasT seen x.s then 5 else if rngT x then 0 else 2) else 4
def tGo : List Q4 → List Q4 → Int
  | _, [] => 0
  | seen, x :: r => if tE seen x = 0 then tGo (seen ++ [x]) r else tE seen x
def termErr (l : List Q4) : Int := if 60 < l.length then 8 else tGo [] l
theorem tGo_bad {l : List Q4} {k : Nat} {x : Q4} {E : Int} (hx : l[k]? = some x) (h : tGo [] l = tGo (l.take k) (l.drop k)) (he : tE (l.take k) x = E) (h0 : E ≠ 0) : tGo [] l = E := by
  rw [h, drop_step hx]
  subst he
  simp only [tGo, if_neg h0]
theorem tGo_next {l : List Q4} {k : Nat} {x : Q4} (hx : l[k]? = some x) (h : tGo [] l = tGo (l.take k) (l.drop k)) (he : tE (l.take k) x = 0) : tGo [] l = tGo (l.take (k + 1)) (l.drop (k + 1)) := by
  rw [h, drop_step hx, take_step hx]
  simp only [tGo, if_pos he]
theorem tGo_end {l : List Q4} {k : Nat} (hk : l.length ≤ k) (h : tGo [] l = tGo (l.take k) (l.drop k)) : tGo [] l = 0 := by
  rw [h, List.drop_eq_nil_of_le hk]
  rfl
theorem hasT_step {l : List Q4} {k : Nat} {x : Q4} (hx : l[k]? = some x) : (fun q => if q = x.s then true else hasT (l.take k) q) = hasT (l.take (k + 1)) := by
  funext q
  rw [take_step hx]
  simp only [hasT, List.any_append, List.any_cons, List.any_nil, Bool.or_false]
  by_cases h : q = x.s
  · subst h
    rw [if_pos rfl, eqS_iff.2 rfl, Bool.or_true]
  · rw [if_neg h, eqS_not.2 (Ne.symm h), Bool.or_false]
set_option maxRecDepth 100000 in
set_option maxHeartbeats 8000000 in
theorem checkTerms_any (A : Option Addr) (n c : Nat) (l : List Q4) (w : World) (h : Rws Q4.cs 4 w w.heap.size A n c l) (hs : ∀ x ∈ l, x.s.size ≤ 30) :
    Calls Try.prog 77 #[.slice A n c] w fun e w' => Below w.heap.size w w' ∧ e = .returned (.int .i64 (termErr l)) := by
  have hcap := h.cap
  have hmax := h.max
  have HLEN := Lib.hid h.len
  have HS := Lib.hid hs
  have H : Hid (∀ w', Below w.heap.size w w' → Rws Q4.cs 4 w' w.heap.size A n c l) := fun w' hb => h.below hb (Nat.le_refl _) (Nat.le_refl _)
  obtain ⟨R, hR⟩ : ∃ R, termErr l = R := ⟨_, rfl⟩
  have HR0 := Lib.hid hR
  rw [hR]
  clear hR h hs
  by_cases hbig : 60 < n
  · obtain rfl : R = 8 := by rw [← HR0.out, termErr, HLEN.out, if_pos hbig]
    go_enter Try.func77, Try.ntmps77
    go_wp2
    go_ret
    exact ⟨(by repeat (first | with_reducible exact Below.refl _ _ | with_reducible assumption | with_reducible refine Below.drew ?_ | with_reducible refine Below.drewN ?_ _ | with_reducible refine Below.alloc2 ?_ _ | with_reducible refine Below.alloc ?_ (by first | omega | (simp <;> omega)) _ | with_reducible refine Below.setCell ?_ (by first | omega | (simp <;> omega)) _ | with_reducible refine Below.step2 (by with_reducible assumption) ?_ | with_reducible refine Below.step (by with_reducible assumption) ?_ (by first | omega | (simp <;> omega)))), rfl⟩
  have HR : Hid (tGo [] l = R) := Lib.hid (by rw [← HR0.out, termErr, HLEN.out, if_neg hbig])
  have hmm := @run_makeMap Try.prog
  go_enter Try.func77, Try.ntmps77
  go_wp2
  go_loopw [5, 12, 16, 21, 26] (fun _ i _ _ _ wr => ∃ k : Nat, k ≤ n ∧ i = .int .i64 k ∧ Hid (tGo [] l = tGo (l.take k) (l.drop k)) ∧ BoolMap wr Try.prog 9 4 strV strOk w.heap.size k (hasT (l.take k)) ∧ Below w.heap.size w wr) (fun _ i _ _ _ _ => n - (intOf i).toNat)
  case atStart => exact ⟨0, Nat.zero_le _, rfl, Lib.hid rfl, BoolMap.made w, (by repeat (first | with_reducible exact Below.refl _ _ | with_reducible assumption | with_reducible refine Below.drew ?_ | with_reducible refine Below.drewN ?_ _ | with_reducible refine Below.alloc2 ?_ _ | with_reducible refine Below.alloc ?_ (by first | omega | (simp <;> omega)) _ | with_reducible refine Below.setCell ?_ (by first | omega | (simp <;> omega)) _ | with_reducible refine Below.step2 (by with_reducible assumption) ?_ | with_reducible refine Below.step (by with_reducible assumption) ?_ (by first | omega | (simp <;> omega))))⟩
  case round =>
    obtain ⟨k, hk, rfl, HV, hm, hb⟩ := hrel
    have HB := Lib.hid hb
    have HM := Lib.hid hm
    have ow := hb.size
    have og := hm.lt
    clear hm
    by_cases hlt : k < n
    · obtain ⟨b, o, ⟨xs, xa, xb, xc⟩, rfl, hbb, hx, c0, c1, c2, c3⟩ := (H.out _ hb).q4 hlt
      dsimp only at c0 c1 c2 c3
      have HX := Lib.hid hx
      have hxs : xs.size ≤ 30 := HS.out _ (List.mem_of_getElem? hx)
      have HSO : Hid (strOk xs) := Lib.hid (by unfold strOk; omega)
      obtain ⟨v1, hv1⟩ : ∃ v, nameB xs = v := ⟨_, rfl⟩
      obtain ⟨v2, hv2⟩ : ∃ v, hasT (l.take k) xs = v := ⟨_, rfl⟩
      obtain ⟨v3, hv3⟩ : ∃ v, (inR 0 1000000 xa && inR 0 1000000 xc) = v := ⟨_, rfl⟩
      obtain ⟨v4, hv4⟩ : ∃ v, inR 0 520 xb = v := ⟨_, rfl⟩
      have HE : Hid (tE (l.take k) ⟨xs, xa, xb, xc⟩ = if v1 then (if v2 then 5 else if v3 && v4 then 0 else 2) else 4) := Lib.hid (by simp only [tE, rngT, hv1, hv2, hv3, hv4])
      have HN := Lib.hid hv1
      have HT := Lib.hid hv2
      have HR1 := Lib.hid hv3
      have HR2 := Lib.hid hv4
      have HSP := Lib.hid (hasT_step hx)
      have ob : b < wr.heap.size := by omega
      clear hx hb hv1 hv2 hv3 hv4
      cases v1
      · (
                  go_wp2_with (first
        | (go_at_call 84; with_reducible refine (isName_any xs _ (by omega)).mono ?_; rw [HN.out]; rintro e w' ⟨rfl, rfl⟩)
        | (at_lookup; refine wpList_get_bool rfl _ _ rfl str_keys Try.underlying145 Try.underlying4 (zero_bool _) rfl (HM.out.alloc _) xs HSO.out rfl ?_; rw [HT.out])
        | (go_at_call 69; with_reducible refine (areFrom_two 0 1000000 xa xc _ _ ?_ ?_ _ HR1.out).mono ?_; (focus (simp; done)); (focus (simp; done)); rintro e w' ⟨rfl, rfl⟩)
        | (go_at_call 69; with_reducible refine (areFrom_one 0 520 xb _ _ ?_ _ HR2.out).mono ?_; (focus (refine (Bk.cell (t := 3) (cs := #[.int .i64 xb]) ?_ 0).trans rfl; exact (by repeat (first | with_reducible assumption | with_reducible exact Bk.at_ (by first | (simp; done) | omega) | with_reducible refine Bk.alloc ?_ _ | with_reducible refine Bk.drew ?_ | with_reducible refine Bk.drewN ?_ _ | with_reducible refine Bk.step (by with_reducible assumption) ?_ (by first | omega | (simp <;> omega)))))); rintro e w9 ⟨rfl, rfl⟩)
        | (at_mapUpdate; refine wpList_put_bool rfl _ _ _ rfl str_keys Try.underlying145 Try.underlying4 rfl (((HM.out.alloc _).alloc _).alloc _) (by unfold maxLen; omega) xs true HSO.out rfl rfl ?_; intro w3 hm3 hg3; have HM3 := Lib.hid hm3; have HG3 := Lib.hid hg3; clear hm3 hg3))
                  go_ret
                  have hb0 := HB.out
                  refine ⟨(by repeat (first | with_reducible exact Below.refl _ _ | with_reducible assumption | with_reducible refine Below.drew ?_ | with_reducible refine Below.drewN ?_ _ | with_reducible refine Below.alloc2 ?_ _ | with_reducible refine Below.alloc ?_ (by first | omega | (simp <;> omega)) _ | with_reducible refine Below.setCell ?_ (by first | omega | (simp <;> omega)) _ | with_reducible refine Below.step2 (by with_reducible assumption) ?_ | with_reducible refine Below.step (by with_reducible assumption) ?_ (by first | omega | (simp <;> omega)))), ret_int ?_⟩
                  rw [← HR.out]
                  exact (tGo_bad (E := 4) HX.out HV.out HE.out (by decide)).symm)
      cases v2
      rotate_left
      · (
                  go_wp2_with (first
        | (go_at_call 84; with_reducible refine (isName_any xs _ (by omega)).mono ?_; rw [HN.out]; rintro e w' ⟨rfl, rfl⟩)
        | (at_lookup; refine wpList_get_bool rfl _ _ rfl str_keys Try.underlying145 Try.underlying4 (zero_bool _) rfl (HM.out.alloc _) xs HSO.out rfl ?_; rw [HT.out])
        | (go_at_call 69; with_reducible refine (areFrom_two 0 1000000 xa xc _ _ ?_ ?_ _ HR1.out).mono ?_; (focus (simp; done)); (focus (simp; done)); rintro e w' ⟨rfl, rfl⟩)
        | (go_at_call 69; with_reducible refine (areFrom_one 0 520 xb _ _ ?_ _ HR2.out).mono ?_; (focus (refine (Bk.cell (t := 3) (cs := #[.int .i64 xb]) ?_ 0).trans rfl; exact (by repeat (first | with_reducible assumption | with_reducible exact Bk.at_ (by first | (simp; done) | omega) | with_reducible refine Bk.alloc ?_ _ | with_reducible refine Bk.drew ?_ | with_reducible refine Bk.drewN ?_ _ | with_reducible refine Bk.step (by with_reducible assumption) ?_ (by first | omega | (simp <;> omega)))))); rintro e w9 ⟨rfl, rfl⟩)
        | (at_mapUpdate; refine wpList_put_bool rfl _ _ _ rfl str_keys Try.underlying145 Try.underlying4 rfl (((HM.out.alloc _).alloc _).alloc _) (by unfold maxLen; omega) xs true HSO.out rfl rfl ?_; intro w3 hm3 hg3; have HM3 := Lib.hid hm3; have HG3 := Lib.hid hg3; clear hm3 hg3))
                  go_ret
                  have hb0 := HB.out
                  refine ⟨(by repeat (first | with_reducible exact Below.refl _ _ | with_reducible assumption | with_reducible refine Below.drew ?_ | with_reducible refine Below.drewN ?_ _ | with_reducible refine Below.alloc2 ?_ _ | with_reducible refine Below.alloc ?_ (by first | omega | (simp <;> omega)) _ | with_reducible refine Below.setCell ?_ (by first | omega | (simp <;> omega)) _ | with_reducible refine Below.step2 (by with_reducible assumption) ?_ | with_reducible refine Below.step (by with_reducible assumption) ?_ (by first | omega | (simp <;> omega)))), ret_int ?_⟩
                  rw [← HR.out]
                  exact (tGo_bad (E := 5) HX.out HV.out HE.out (by decide)).symm)
      cases v3
      · (
                  go_wp2_with (first
        | (go_at_call 84; with_reducible refine (isName_any xs _ (by omega)).mono ?_; rw [HN.out]; rintro e w' ⟨rfl, rfl⟩)
        | (at_lookup; refine wpList_get_bool rfl _ _ rfl str_keys Try.underlying145 Try.underlying4 (zero_bool _) rfl (HM.out.alloc _) xs HSO.out rfl ?_; rw [HT.out])
        | (go_at_call 69; with_reducible refine (areFrom_two 0 1000000 xa xc _ _ ?_ ?_ _ HR1.out).mono ?_; (focus (simp; done)); (focus (simp; done)); rintro e w' ⟨rfl, rfl⟩)
        | (go_at_call 69; with_reducible refine (areFrom_one 0 520 xb _ _ ?_ _ HR2.out).mono ?_; (focus (refine (Bk.cell (t := 3) (cs := #[.int .i64 xb]) ?_ 0).trans rfl; exact (by repeat (first | with_reducible assumption | with_reducible exact Bk.at_ (by first | (simp; done) | omega) | with_reducible refine Bk.alloc ?_ _ | with_reducible refine Bk.drew ?_ | with_reducible refine Bk.drewN ?_ _ | with_reducible refine Bk.step (by with_reducible assumption) ?_ (by first | omega | (simp <;> omega)))))); rintro e w9 ⟨rfl, rfl⟩)
        | (at_mapUpdate; refine wpList_put_bool rfl _ _ _ rfl str_keys Try.underlying145 Try.underlying4 rfl (((HM.out.alloc _).alloc _).alloc _) (by unfold maxLen; omega) xs true HSO.out rfl rfl ?_; intro w3 hm3 hg3; have HM3 := Lib.hid hm3; have HG3 := Lib.hid hg3; clear hm3 hg3))
                  go_ret
                  have hb0 := HB.out
                  refine ⟨(by repeat (first | with_reducible exact Below.refl _ _ | with_reducible assumption | with_reducible refine Below.drew ?_ | with_reducible refine Below.drewN ?_ _ | with_reducible refine Below.alloc2 ?_ _ | with_reducible refine Below.alloc ?_ (by first | omega | (simp <;> omega)) _ | with_reducible refine Below.setCell ?_ (by first | omega | (simp <;> omega)) _ | with_reducible refine Below.step2 (by with_reducible assumption) ?_ | with_reducible refine Below.step (by with_reducible assumption) ?_ (by first | omega | (simp <;> omega)))), ret_int ?_⟩
                  rw [← HR.out]
                  exact (tGo_bad (E := 2) HX.out HV.out HE.out (by decide)).symm)
      cases v4
      · (
                  go_wp2_with (first
        | (go_at_call 84; with_reducible refine (isName_any xs _ (by omega)).mono ?_; rw [HN.out]; rintro e w' ⟨rfl, rfl⟩)
        | (at_lookup; refine wpList_get_bool rfl _ _ rfl str_keys Try.underlying145 Try.underlying4 (zero_bool _) rfl (HM.out.alloc _) xs HSO.out rfl ?_; rw [HT.out])
        | (go_at_call 69; with_reducible refine (areFrom_two 0 1000000 xa xc _ _ ?_ ?_ _ HR1.out).mono ?_; (focus (simp; done)); (focus (simp; done)); rintro e w' ⟨rfl, rfl⟩)
        | (go_at_call 69; with_reducible refine (areFrom_one 0 520 xb _ _ ?_ _ HR2.out).mono ?_; (focus (refine (Bk.cell (t := 3) (cs := #[.int .i64 xb]) ?_ 0).trans rfl; exact (by repeat (first | with_reducible assumption | with_reducible exact Bk.at_ (by first | (simp; done) | omega) | with_reducible refine Bk.alloc ?_ _ | with_reducible refine Bk.drew ?_ | with_reducible refine Bk.drewN ?_ _ | with_reducible refine Bk.step (by with_reducible assumption) ?_ (by first | omega | (simp <;> omega)))))); rintro e w9 ⟨rfl, rfl⟩)
        | (at_mapUpdate; refine wpList_put_bool rfl _ _ _ rfl str_keys Try.underlying145 Try.underlying4 rfl (((HM.out.alloc _).alloc _).alloc _) (by unfold maxLen; omega) xs true HSO.out rfl rfl ?_; intro w3 hm3 hg3; have HM3 := Lib.hid hm3; have HG3 := Lib.hid hg3; clear hm3 hg3))
                  go_ret
                  have hb0 := HB.out
                  refine ⟨(by repeat (first | with_reducible exact Below.refl _ _ | with_reducible assumption | with_reducible refine Below.drew ?_ | with_reducible refine Below.drewN ?_ _ | with_reducible refine Below.alloc2 ?_ _ | with_reducible refine Below.alloc ?_ (by first | omega | (simp <;> omega)) _ | with_reducible refine Below.setCell ?_ (by first | omega | (simp <;> omega)) _ | with_reducible refine Below.step2 (by with_reducible assumption) ?_ | with_reducible refine Below.step (by with_reducible assumption) ?_ (by first | omega | (simp <;> omega)))), ret_int ?_⟩
                  rw [← HR.out]
                  exact (tGo_bad (E := 2) HX.out HV.out HE.out (by decide)).symm)
      · go_wp2_with (first
        | (go_at_call 84; with_reducible refine (isName_any xs _ (by omega)).mono ?_; rw [HN.out]; rintro e w' ⟨rfl, rfl⟩)
        | (at_lookup; refine wpList_get_bool rfl _ _ rfl str_keys Try.underlying145 Try.underlying4 (zero_bool _) rfl (HM.out.alloc _) xs HSO.out rfl ?_; rw [HT.out])
        | (go_at_call 69; with_reducible refine (areFrom_two 0 1000000 xa xc _ _ ?_ ?_ _ HR1.out).mono ?_; (focus (simp; done)); (focus (simp; done)); rintro e w' ⟨rfl, rfl⟩)
        | (go_at_call 69; with_reducible refine (areFrom_one 0 520 xb _ _ ?_ _ HR2.out).mono ?_; (focus (refine (Bk.cell (t := 3) (cs := #[.int .i64 xb]) ?_ 0).trans rfl; exact (by repeat (first | with_reducible assumption | with_reducible exact Bk.at_ (by first | (simp; done) | omega) | with_reducible refine Bk.alloc ?_ _ | with_reducible refine Bk.drew ?_ | with_reducible refine Bk.drewN ?_ _ | with_reducible refine Bk.step (by with_reducible assumption) ?_ (by first | omega | (simp <;> omega)))))); rintro e w9 ⟨rfl, rfl⟩)
        | (at_mapUpdate; refine wpList_put_bool rfl _ _ _ rfl str_keys Try.underlying145 Try.underlying4 rfl (((HM.out.alloc _).alloc _).alloc _) (by unfold maxLen; omega) xs true HSO.out rfl rfl ?_; intro w3 hm3 hg3; have HM3 := Lib.hid hm3; have HG3 := Lib.hid hg3; clear hm3 hg3))
        go_roundw
        case rel =>
          have hb0 := HB.out
          refine ⟨k + 1, by omega, by go_num, Lib.hid (tGo_next HX.out HV.out HE.out), ?_, ?_⟩
          · have := HM3.out
            rw [HSP.out] at this
            exact this
          · exact Below.grown_ (D := w.heap.size) (by exact (by repeat (first | with_reducible exact Below.refl _ _ | with_reducible assumption | with_reducible refine Below.drew ?_ | with_reducible refine Below.drewN ?_ _ | with_reducible refine Below.alloc2 ?_ _ | with_reducible refine Below.alloc ?_ (by first | omega | (simp <;> omega)) _ | with_reducible refine Below.setCell ?_ (by first | omega | (simp <;> omega)) _ | with_reducible refine Below.step2 (by with_reducible assumption) ?_ | with_reducible refine Below.step (by with_reducible assumption) ?_ (by first | omega | (simp <;> omega))))) HG3.out (by simp; omega) (fun q hq => by cases hq; omega)
        case measure => simp [intOf]; omega
    · go_wp2
      go_ret
      refine ⟨HB.out, ret_int ?_⟩
      rw [← HR.out]
      exact (tGo_end (by rw [HLEN.out]; omega) HV.out).symm

end Go.Proofs.Ytgjjjnofdjhikaa
