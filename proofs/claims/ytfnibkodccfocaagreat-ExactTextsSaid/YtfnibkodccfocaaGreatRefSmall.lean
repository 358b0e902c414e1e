/- The reference's Small. -/
import Derived.Test.YtfnibkodccfocaaGreatRefB
import Derived.Test.YtfnibkodccfocaaGreatSmall
namespace Go.Proofs.YtfnibkodccfocaaGreat
open Go.RowKit

theorem cols_sign (s : Bool) (l : List Nat) : (∀ y ∈ cols s l, 0 ≤ y) ∨ (∀ y ∈ cols s l, y ≤ 0) := by
  cases s
  · left
    induction l with
    | nil => simp [cols]
    | cons x r ih =>
      intro y hy
      simp only [cols, List.mem_cons, sgn] at hy
      rcases hy with rfl | rfl | h
      · simp; omega
      · simp; omega
      · exact ih y h
  · right
    induction l with
    | nil => simp [cols]
    | cons x r ih =>
      intro y hy
      simp only [cols, List.mem_cons, sgn] at hy
      rcases hy with rfl | rfl | h
      · simp; omega
      · simp; omega
      · exact ih y h
theorem valc_pos : ∀ {c : List Int}, (∀ y ∈ c, 0 ≤ y) → 0 ≤ valc c
  | [], _ => by simp [valc]
  | x :: r, h => by
    have h1 := h x (by simp)
    have h2 := valc_pos (c := r) (fun y hy => h y (by simp [hy]))
    simp only [valc]; omega
theorem valc_drop_pos : ∀ {c : List Int} (k : Nat), (∀ y ∈ c, 0 ≤ y) → valc (c.drop k) ≤ valc c
  | [], k, _ => by simp
  | x :: r, 0, _ => by simp
  | x :: r, k + 1, h => by
    have h1 := h x (by simp)
    have h2 := valc_drop_pos (c := r) k (fun y hy => h y (by simp [hy]))
    have h3 := valc_pos (c := r) (fun y hy => h y (by simp [hy]))
    simp only [valc, List.drop_succ_cons]; omega
theorem map_neg_nonneg {c : List Int} (h : ∀ y ∈ c, y ≤ 0) : ∀ y ∈ c.map (fun x => -x), 0 ≤ y := fun y hy => by
  obtain ⟨x, hx, rfl⟩ := List.mem_map.1 hy
  have := h x hx
  omega
theorem drop_bd {c : List Int} (hc : (∀ y ∈ c, 0 ≤ y) ∨ (∀ y ∈ c, y ≤ 0)) {a b : Int} (ha : a ≤ 0) (hb : 0 ≤ b) (h1 : a ≤ valc c) (h2 : valc c ≤ b) (k : Nat) : a ≤ valc (c.drop k) ∧ valc (c.drop k) ≤ b := by
  rcases hc with h | h
  · have h3 := valc_drop_pos k h
    have h4 := valc_pos (c := c.drop k) (fun y hy => h y (List.mem_of_mem_drop hy))
    omega
  · have h3 := valc_drop_pos k (map_neg_nonneg h)
    have h4 := valc_pos (c := (c.drop k).map fun x => -x) (map_neg_nonneg fun y hy => h y (List.mem_of_mem_drop hy))
    rw [← List.map_drop, valc_neg, valc_neg] at h3
    rw [valc_neg] at h4
    omega
theorem drop_step {c : List Int} {k : Nat} {x : Int} (hx : c[k]? = some x) : valc (c.drop k) = x + 65536 * valc (c.drop (k + 1)) := by
  obtain ⟨h, rfl⟩ := List.getElem?_eq_some_iff.1 hx
  rw [List.drop_eq_getElem_cons h, valc]
theorem drop_mul {c : List Int} (hc : (∀ y ∈ c, 0 ≤ y) ∨ (∀ y ∈ c, y ≤ 0)) {a b : Int} (ha : a ≤ 0) (hb : 0 ≤ b) (h1 : a ≤ valc c) (h2 : valc c ≤ b) {k : Nat} {x : Int} (hx : c[k]? = some x) : a ≤ valc (c.drop (k + 1)) * 65536 ∧ valc (c.drop (k + 1)) * 65536 ≤ b := by
  have h3 := drop_bd hc ha hb h1 h2 k
  have h4 := drop_step hx
  have hm := List.mem_of_getElem? hx
  rcases hc with h | h
  · have h5 := h x hm
    have h6 := valc_pos (c := c.drop (k + 1)) (fun y hy => h y (List.mem_of_mem_drop hy))
    omega
  · have h5 := h x hm
    have h6 := valc_pos (c := (c.drop (k + 1)).map fun x => -x) (map_neg_nonneg fun y hy => h y (List.mem_of_mem_drop hy))
    rw [valc_neg] at h6
    omega
section
variable {w w1 : World} {s : Bool} {A : Option Addr} {n c : Nat} {x : Int} {K : Nat} {nf : Bool}
set_option maxRecDepth 100000 in
set_option maxHeartbeats 8000000 in
theorem rsmallH (h1 : IntH w1 s A n c x K nf) (b1 : Below w1.heap.size w1 w) (k1 : K ≤ 300) :
    Calls Tryz.prog 10 #[.agg #[.bool s, .slice A n c]] w fun e w' => Below w.heap.size w w' ∧ e = .returned (smallV x) := by
  obtain ⟨C1, HC1⟩ : ∃ C, cmpI x (-9223372036854775808) = C := ⟨_, rfl⟩
  obtain ⟨C2, HC2⟩ : ∃ C, cmpI x 9223372036854775807 = C := ⟨_, rfl⟩
  go_enter Tryz.func10, Tryz.ntmps10
  go_wp2_with (go_at_call 13; go_loud (with_reducible refine (rofH (-9223372036854775808) _ (by omega) (by omega)).mono ?_; rintro e w2 ⟨hb2, sl, Al, nl, cl, rfl, hl⟩; have hz2 := hb2.size; (try simp at hz2)))
  obtain ⟨g, hg⟩ : ∃ g, w2.heap.size = g := ⟨_, rfl⟩
  obtain ⟨W, hW⟩ : ∃ W, W = w2.alloc (.cells #[.bool sl, .slice Al nl cl] 24) := ⟨_, rfl⟩
  have hbW : Below w.heap.size w W := by rw [hW]; exact (by repeat (first | with_reducible exact Below.refl _ _ | with_reducible assumption | with_reducible refine Below.drew ?_ | with_reducible refine Below.drewN ?_ _ | with_reducible refine Below.alloc2 ?_ _ | with_reducible refine Below.alloc ?_ (by first | omega | (simp <;> omega)) _ | with_reducible refine Below.setCell ?_ (by first | omega | (simp <;> omega)) _ | with_reducible refine Below.step2 (by with_reducible assumption) ?_ | with_reducible refine Below.step (by with_reducible assumption) ?_ (by first | omega | (simp <;> omega))))
  have kx : Bk W w.heap.size 24 #[.bool s, .slice A n c] := by rw [hW]; exact (by repeat (first | with_reducible assumption | with_reducible exact Bk.at_ (by first | (simp; done) | omega) | with_reducible refine Bk.alloc ?_ _ | with_reducible refine Bk.drew ?_ | with_reducible refine Bk.drewN ?_ _ | with_reducible refine Bk.step (by with_reducible assumption) ?_ (by first | omega | (simp <;> omega))))
  have kl : Bk W g 24 #[.bool sl, .slice Al nl cl] := by rw [hW]; exact Bk.at_ hg
  have iL : IntH W sl Al nl cl (-9223372036854775808) 2 true := by
    obtain ⟨l, q1, q2, q3⟩ := hl.lim
    exact ⟨⟨l, fun w' hb => q1 w' (below_to ((Below.refl _ _).alloc (Nat.le_refl _) _) (hW ▸ hb) (by simp)), q2, q3⟩, hl.len⟩
  rw [hg, ← hW]
  have ozW : w.heap.size + 1 ≤ g := by omega
  have ozG : g < W.heap.size := kl.lt
  have hbX : Below w1.heap.size w1 W := (by repeat (first | with_reducible exact Below.refl _ _ | with_reducible assumption | with_reducible refine Below.drew ?_ | with_reducible refine Below.drewN ?_ _ | with_reducible refine Below.alloc2 ?_ _ | with_reducible refine Below.alloc ?_ (by first | omega | (simp <;> omega)) _ | with_reducible refine Below.setCell ?_ (by first | omega | (simp <;> omega)) _ | with_reducible refine Below.step2 (by with_reducible assumption) ?_ | with_reducible refine Below.step (by with_reducible assumption) ?_ (by first | omega | (simp <;> omega))))
  clear hW hl hb2
  obtain ⟨a0, a1⟩ := kx.duo
  obtain ⟨a2, a3⟩ := kl.duo
  have ox := kx.lt
  have ol := kl.lt
  rcases Int.lt_trichotomy x (-9223372036854775808) with hx | hx | hx
  · have hC1 : C1 = -1 := by rw [← HC1, cmpI_lt hx]
    subst hC1
    have HV := Lib.hid (smallV_out (z := x) (by omega))
    go_region_with (first
    | (go_at_call 23; go_loud (with_reducible refine (rcmpH (by assumption) (by assumption) ?_ ?_ (by omega) (by omega) (by assumption)).mono ?_; (focus (exact (by repeat (first | with_reducible exact Below.refl _ _ | with_reducible assumption | with_reducible refine Below.drew ?_ | with_reducible refine Below.drewN ?_ _ | with_reducible refine Below.alloc2 ?_ _ | with_reducible refine Below.alloc ?_ (by first | omega | (simp <;> omega)) _ | with_reducible refine Below.setCell ?_ (by first | omega | (simp <;> omega)) _ | with_reducible refine Below.step2 (by with_reducible assumption) ?_ | with_reducible refine Below.step (by with_reducible assumption) ?_ (by first | omega | (simp <;> omega)))))); (focus (exact (by repeat (first | with_reducible exact Below.refl _ _ | with_reducible assumption | with_reducible refine Below.drew ?_ | with_reducible refine Below.drewN ?_ _ | with_reducible refine Below.alloc2 ?_ _ | with_reducible refine Below.alloc ?_ (by first | omega | (simp <;> omega)) _ | with_reducible refine Below.setCell ?_ (by first | omega | (simp <;> omega)) _ | with_reducible refine Below.step2 (by with_reducible assumption) ?_ | with_reducible refine Below.step (by with_reducible assumption) ?_ (by first | omega | (simp <;> omega)))))); rintro e wn ⟨hbwn, rfl⟩; have qx : Bk wn w.heap.size 24 #[.bool s, .slice A n c] := (by repeat (first | with_reducible assumption | with_reducible exact Bk.at_ (by first | (simp; done) | omega) | with_reducible refine Bk.alloc ?_ _ | with_reducible refine Bk.drew ?_ | with_reducible refine Bk.drewN ?_ _ | with_reducible refine Bk.step (by with_reducible assumption) ?_ (by first | omega | (simp <;> omega)))); have ql : Bk wn g 24 #[.bool sl, .slice Al nl cl] := (by repeat (first | with_reducible assumption | with_reducible exact Bk.at_ (by first | (simp; done) | omega) | with_reducible refine Bk.alloc ?_ _ | with_reducible refine Bk.drew ?_ | with_reducible refine Bk.drewN ?_ _ | with_reducible refine Bk.step (by with_reducible assumption) ?_ (by first | omega | (simp <;> omega)))); clear kx kl a0 a1 a2 a3; have kx := qx; have kl := ql; clear qx ql; have ox := kx.lt; have ol := kl.lt; obtain ⟨a0, a1⟩ := kx.duo; obtain ⟨a2, a3⟩ := kl.duo; have ozwn := hbwn.size; (try simp at ozwn)))
    | (go_at_call 13; go_loud (with_reducible refine (rofH 9223372036854775807 _ (by omega) (by omega)).mono ?_; rintro e wm ⟨hbwm, sm, Am, nm, cm, rfl, hm⟩; have qx : Bk wm w.heap.size 24 #[.bool s, .slice A n c] := (by repeat (first | with_reducible assumption | with_reducible exact Bk.at_ (by first | (simp; done) | omega) | with_reducible refine Bk.alloc ?_ _ | with_reducible refine Bk.drew ?_ | with_reducible refine Bk.drewN ?_ _ | with_reducible refine Bk.step (by with_reducible assumption) ?_ (by first | omega | (simp <;> omega)))); have ql : Bk wm g 24 #[.bool sl, .slice Al nl cl] := (by repeat (first | with_reducible assumption | with_reducible exact Bk.at_ (by first | (simp; done) | omega) | with_reducible refine Bk.alloc ?_ _ | with_reducible refine Bk.drew ?_ | with_reducible refine Bk.drewN ?_ _ | with_reducible refine Bk.step (by with_reducible assumption) ?_ (by first | omega | (simp <;> omega)))); clear kx kl a0 a1 a2 a3; have kx := qx; have kl := ql; clear qx ql; have ox := kx.lt; have ol := kl.lt; obtain ⟨a0, a1⟩ := kx.duo; obtain ⟨a2, a3⟩ := kl.duo; have ozwm := hbwm.size; (try simp at ozwm))))
    all_goals (
      have hBW : Below w.heap.size w wn := (by repeat (first | with_reducible exact Below.refl _ _ | with_reducible assumption | with_reducible refine Below.drew ?_ | with_reducible refine Below.drewN ?_ _ | with_reducible refine Below.alloc2 ?_ _ | with_reducible refine Below.alloc ?_ (by first | omega | (simp <;> omega)) _ | with_reducible refine Below.setCell ?_ (by first | omega | (simp <;> omega)) _ | with_reducible refine Below.step2 (by with_reducible assumption) ?_ | with_reducible refine Below.step (by with_reducible assumption) ?_ (by first | omega | (simp <;> omega))))
      go_wp2
      refine bodyPost_ret (results_tmp2 rfl _ _ _) rfl ?_
      exact ⟨hBW, by rw [HV.out]; rfl⟩)
  · have hC1 : C1 = 0 := by rw [← HC1, cmpI_eq hx]
    have hC2 : C2 = -1 := by rw [← HC2, cmpI_lt (by omega)]
    subst hC1
    subst hC2
    (
      have HV := Lib.hid (smallV_in (z := x) (by omega) (by omega))
      have hr1 : -9223372036854775808 ≤ x := by omega
      have hr2 : x ≤ 9223372036854775807 := by omega
      clear hx
      (try clear hy)
      go_region_held3 (fun w' => (w'.cell? ⟨w.heap.size, 0, none⟩ = some (.bool s) ∧ w'.cell? ⟨w.heap.size, 1, none⟩ = some (.slice A n c)) ∧ w'.cell? ⟨g, 0, none⟩ = some (.bool sl) ∧ w'.cell? ⟨g, 1, none⟩ = some (.slice Al nl cl)) (go_keep) (first
    | (go_at_call 23; go_loud (with_reducible refine (rcmpH (by assumption) (by assumption) ?_ ?_ (by omega) (by omega) (by assumption)).mono ?_; (focus (exact (by repeat (first | with_reducible exact Below.refl _ _ | with_reducible assumption | with_reducible refine Below.drew ?_ | with_reducible refine Below.drewN ?_ _ | with_reducible refine Below.alloc2 ?_ _ | with_reducible refine Below.alloc ?_ (by first | omega | (simp <;> omega)) _ | with_reducible refine Below.setCell ?_ (by first | omega | (simp <;> omega)) _ | with_reducible refine Below.step2 (by with_reducible assumption) ?_ | with_reducible refine Below.step (by with_reducible assumption) ?_ (by first | omega | (simp <;> omega)))))); (focus (exact (by repeat (first | with_reducible exact Below.refl _ _ | with_reducible assumption | with_reducible refine Below.drew ?_ | with_reducible refine Below.drewN ?_ _ | with_reducible refine Below.alloc2 ?_ _ | with_reducible refine Below.alloc ?_ (by first | omega | (simp <;> omega)) _ | with_reducible refine Below.setCell ?_ (by first | omega | (simp <;> omega)) _ | with_reducible refine Below.step2 (by with_reducible assumption) ?_ | with_reducible refine Below.step (by with_reducible assumption) ?_ (by first | omega | (simp <;> omega)))))); rintro e wn ⟨hbwn, rfl⟩; have qx : Bk wn w.heap.size 24 #[.bool s, .slice A n c] := (by repeat (first | with_reducible assumption | with_reducible exact Bk.at_ (by first | (simp; done) | omega) | with_reducible refine Bk.alloc ?_ _ | with_reducible refine Bk.drew ?_ | with_reducible refine Bk.drewN ?_ _ | with_reducible refine Bk.step (by with_reducible assumption) ?_ (by first | omega | (simp <;> omega)))); have ql : Bk wn g 24 #[.bool sl, .slice Al nl cl] := (by repeat (first | with_reducible assumption | with_reducible exact Bk.at_ (by first | (simp; done) | omega) | with_reducible refine Bk.alloc ?_ _ | with_reducible refine Bk.drew ?_ | with_reducible refine Bk.drewN ?_ _ | with_reducible refine Bk.step (by with_reducible assumption) ?_ (by first | omega | (simp <;> omega)))); clear kx kl a0 a1 a2 a3; have kx := qx; have kl := ql; clear qx ql; have ox := kx.lt; have ol := kl.lt; obtain ⟨a0, a1⟩ := kx.duo; obtain ⟨a2, a3⟩ := kl.duo; have ozwn := hbwn.size; (try simp at ozwn)))
    | (go_at_call 13; go_loud (with_reducible refine (rofH 9223372036854775807 _ (by omega) (by omega)).mono ?_; rintro e wm ⟨hbwm, sm, Am, nm, cm, rfl, hm⟩; have qx : Bk wm w.heap.size 24 #[.bool s, .slice A n c] := (by repeat (first | with_reducible assumption | with_reducible exact Bk.at_ (by first | (simp; done) | omega) | with_reducible refine Bk.alloc ?_ _ | with_reducible refine Bk.drew ?_ | with_reducible refine Bk.drewN ?_ _ | with_reducible refine Bk.step (by with_reducible assumption) ?_ (by first | omega | (simp <;> omega)))); have ql : Bk wm g 24 #[.bool sl, .slice Al nl cl] := (by repeat (first | with_reducible assumption | with_reducible exact Bk.at_ (by first | (simp; done) | omega) | with_reducible refine Bk.alloc ?_ _ | with_reducible refine Bk.drew ?_ | with_reducible refine Bk.drewN ?_ _ | with_reducible refine Bk.step (by with_reducible assumption) ?_ (by first | omega | (simp <;> omega)))); clear kx kl a0 a1 a2 a3; have kx := qx; have kl := ql; clear qx ql; have ox := kx.lt; have ol := kl.lt; obtain ⟨a0, a1⟩ := kx.duo; obtain ⟨a2, a3⟩ := kl.duo; have ozwm := hbwm.size; (try simp at ozwm))))
      have hBW : Below w.heap.size w wn := (by repeat (first | with_reducible exact Below.refl _ _ | with_reducible assumption | with_reducible refine Below.drew ?_ | with_reducible refine Below.drewN ?_ _ | with_reducible refine Below.alloc2 ?_ _ | with_reducible refine Below.alloc ?_ (by first | omega | (simp <;> omega)) _ | with_reducible refine Below.setCell ?_ (by first | omega | (simp <;> omega)) _ | with_reducible refine Below.step2 (by with_reducible assumption) ?_ | with_reducible refine Below.step (by with_reducible assumption) ?_ (by first | omega | (simp <;> omega))))
      have oxn := kx.lt
      go_wp2_with (first
        | (go_at_call 55; go_loud (with_reducible refine (rintH h1 ?_ (by omega)).mono ?_; (focus (exact (by repeat (first | with_reducible exact Below.refl _ _ | with_reducible assumption | with_reducible refine Below.drew ?_ | with_reducible refine Below.drewN ?_ _ | with_reducible refine Below.alloc2 ?_ _ | with_reducible refine Below.alloc ?_ (by first | omega | (simp <;> omega)) _ | with_reducible refine Below.setCell ?_ (by first | omega | (simp <;> omega)) _ | with_reducible refine Below.step2 (by with_reducible assumption) ?_ | with_reducible refine Below.step (by with_reducible assumption) ?_ (by first | omega | (simp <;> omega)))))); rintro e wi ⟨hbwi, si, Ai, ni, ci, rfl, hi⟩; obtain ⟨ll, gl, hzx, -⟩ := hi.lim; have hli := hi.len))
        | (go_at_call 54; go_loud (with_reducible refine (columnsH (LimA.of gl (Below.refl _ _)) ?_ (by omega)).mono ?_; (focus (exact (by repeat (first | with_reducible exact Below.refl _ _ | with_reducible assumption | with_reducible refine Below.drew ?_ | with_reducible refine Below.drewN ?_ _ | with_reducible refine Below.alloc2 ?_ _ | with_reducible refine Below.alloc ?_ (by first | omega | (simp <;> omega)) _ | with_reducible refine Below.setCell ?_ (by first | omega | (simp <;> omega)) _ | with_reducible refine Below.step2 (by with_reducible assumption) ?_ | with_reducible refine Below.step (by with_reducible assumption) ?_ (by first | omega | (simp <;> omega)))))); rintro e wj ⟨hbwj, Aj, cj, rfl, hj⟩)))
      have hBJ : Below w.heap.size w wj := (by repeat (first | with_reducible exact Below.refl _ _ | with_reducible assumption | with_reducible refine Below.drew ?_ | with_reducible refine Below.drewN ?_ _ | with_reducible refine Below.alloc2 ?_ _ | with_reducible refine Below.alloc ?_ (by first | omega | (simp <;> omega)) _ | with_reducible refine Below.setCell ?_ (by first | omega | (simp <;> omega)) _ | with_reducible refine Below.step2 (by with_reducible assumption) ?_ | with_reducible refine Below.step (by with_reducible assumption) ?_ (by first | omega | (simp <;> omega))))
      have hN := hj.all wj (Below.refl _ _)
      have q1 := hN.cap
      have q2 := hN.max
      have HNN := Lib.hid hN
      have HS := Lib.hid (cols_sign si ll)
      have HC := Lib.hid (show valc (cols si ll) = x by rw [valc_cols, hzx])
      have HL := Lib.hid hN.len
      have HV2 : Hid (smallV x = .tuple #[.int .i64 (valc (cols si ll)), .bool true]) := Lib.hid (by rw [HC.out]; exact HV.out)
      generalize cols si ll = cs at HNN HS HC HL HV2
      clear hN hj hbwj hi gl hzx hbwi
      go_wp2
      go_loop [6, 7] (fun v i => ∃ k : Nat, k ≤ 2 * ni ∧ i = .int .i64 ((k : Int) - 1) ∧ v = .int .i64 (valc (cs.drop k))) (fun _ i => (intOf i + 1).toNat)
      case atStart => exact ⟨2 * ni, Nat.le_refl _, rfl, by rw [List.drop_eq_nil_of_le (by rw [HL.out]; exact Nat.le_refl _)]; rfl⟩
      case round =>
        obtain ⟨k, hk, rfl, rfl⟩ := hrel
        rcases Nat.eq_zero_or_pos k with h0 | h0
        · subst h0
          have hz : ((0 : Nat) : Int) - 1 = -1 := by omega
          rw [hz]
          go_wp2
          refine bodyPost_ret (results_tmp2 rfl _ _ _) rfl ?_
          exact ⟨hBJ, by rw [HV2.out]; rfl⟩
        · obtain ⟨j, rfl⟩ : ∃ j, k = j + 1 := ⟨k - 1, by omega⟩
          have hz : ((j + 1 : Nat) : Int) - 1 = (j : Int) := by omega
          rw [hz]
          obtain ⟨b, o, y, rfl, hbb, hy, c0⟩ := HNN.out.at_ (show j < 2 * ni by omega)
          have d1 := drop_bd HS.out (a := -9223372036854775808) (b := 9223372036854775807) (by omega) (by omega) (by rw [HC.out]; omega) (by rw [HC.out]; omega) j
          have d2 := drop_mul HS.out (a := -9223372036854775808) (b := 9223372036854775807) (by omega) (by omega) (by rw [HC.out]; omega) (by rw [HC.out]; omega) hy
          have d3 := drop_step hy
          have HD := Lib.hid d3
          rw [d3] at d1
          generalize valc (cs.drop (j + 1)) = V at d1 d2 HD ⊢
          have d4 : -9223372036854775808 ≤ V * 65536 + y ∧ V * 65536 + y ≤ 9223372036854775807 := by omega
          clear d1 d3 hy hz
          go_wp2
          refine ⟨⟨j, by omega, rfl, congrArg (Value.int .i64) (by rw [HD.out]; omega)⟩, by (simp [intOf] <;> omega)⟩)
  · have hC1 : C1 = 1 := by rw [← HC1, cmpI_gt hx]
    subst hC1
    rcases Int.lt_trichotomy x 9223372036854775807 with hy | hy | hy
    · have hC2 : C2 = -1 := by rw [← HC2, cmpI_lt hy]
      subst hC2
      (
        have HV := Lib.hid (smallV_in (z := x) (by omega) (by omega))
        have hr1 : -9223372036854775808 ≤ x := by omega
        have hr2 : x ≤ 9223372036854775807 := by omega
        clear hx
        (try clear hy)
        go_region_held3 (fun w' => (w'.cell? ⟨w.heap.size, 0, none⟩ = some (.bool s) ∧ w'.cell? ⟨w.heap.size, 1, none⟩ = some (.slice A n c)) ∧ w'.cell? ⟨g, 0, none⟩ = some (.bool sl) ∧ w'.cell? ⟨g, 1, none⟩ = some (.slice Al nl cl)) (go_keep) (first
      | (go_at_call 23; go_loud (with_reducible refine (rcmpH (by assumption) (by assumption) ?_ ?_ (by omega) (by omega) (by assumption)).mono ?_; (focus (exact (by repeat (first | with_reducible exact Below.refl _ _ | with_reducible assumption | with_reducible refine Below.drew ?_ | with_reducible refine Below.drewN ?_ _ | with_reducible refine Below.alloc2 ?_ _ | with_reducible refine Below.alloc ?_ (by first | omega | (simp <;> omega)) _ | with_reducible refine Below.setCell ?_ (by first | omega | (simp <;> omega)) _ | with_reducible refine Below.step2 (by with_reducible assumption) ?_ | with_reducible refine Below.step (by with_reducible assumption) ?_ (by first | omega | (simp <;> omega)))))); (focus (exact (by repeat (first | with_reducible exact Below.refl _ _ | with_reducible assumption | with_reducible refine Below.drew ?_ | with_reducible refine Below.drewN ?_ _ | with_reducible refine Below.alloc2 ?_ _ | with_reducible refine Below.alloc ?_ (by first | omega | (simp <;> omega)) _ | with_reducible refine Below.setCell ?_ (by first | omega | (simp <;> omega)) _ | with_reducible refine Below.step2 (by with_reducible assumption) ?_ | with_reducible refine Below.step (by with_reducible assumption) ?_ (by first | omega | (simp <;> omega)))))); rintro e wn ⟨hbwn, rfl⟩; have qx : Bk wn w.heap.size 24 #[.bool s, .slice A n c] := (by repeat (first | with_reducible assumption | with_reducible exact Bk.at_ (by first | (simp; done) | omega) | with_reducible refine Bk.alloc ?_ _ | with_reducible refine Bk.drew ?_ | with_reducible refine Bk.drewN ?_ _ | with_reducible refine Bk.step (by with_reducible assumption) ?_ (by first | omega | (simp <;> omega)))); have ql : Bk wn g 24 #[.bool sl, .slice Al nl cl] := (by repeat (first | with_reducible assumption | with_reducible exact Bk.at_ (by first | (simp; done) | omega) | with_reducible refine Bk.alloc ?_ _ | with_reducible refine Bk.drew ?_ | with_reducible refine Bk.drewN ?_ _ | with_reducible refine Bk.step (by with_reducible assumption) ?_ (by first | omega | (simp <;> omega)))); clear kx kl a0 a1 a2 a3; have kx := qx; have kl := ql; clear qx ql; have ox := kx.lt; have ol := kl.lt; obtain ⟨a0, a1⟩ := kx.duo; obtain ⟨a2, a3⟩ := kl.duo; have ozwn := hbwn.size; (try simp at ozwn)))
      | (go_at_call 13; go_loud (with_reducible refine (rofH 9223372036854775807 _ (by omega) (by omega)).mono ?_; rintro e wm ⟨hbwm, sm, Am, nm, cm, rfl, hm⟩; have qx : Bk wm w.heap.size 24 #[.bool s, .slice A n c] := (by repeat (first | with_reducible assumption | with_reducible exact Bk.at_ (by first | (simp; done) | omega) | with_reducible refine Bk.alloc ?_ _ | with_reducible refine Bk.drew ?_ | with_reducible refine Bk.drewN ?_ _ | with_reducible refine Bk.step (by with_reducible assumption) ?_ (by first | omega | (simp <;> omega)))); have ql : Bk wm g 24 #[.bool sl, .slice Al nl cl] := (by repeat (first | with_reducible assumption | with_reducible exact Bk.at_ (by first | (simp; done) | omega) | with_reducible refine Bk.alloc ?_ _ | with_reducible refine Bk.drew ?_ | with_reducible refine Bk.drewN ?_ _ | with_reducible refine Bk.step (by with_reducible assumption) ?_ (by first | omega | (simp <;> omega)))); clear kx kl a0 a1 a2 a3; have kx := qx; have kl := ql; clear qx ql; have ox := kx.lt; have ol := kl.lt; obtain ⟨a0, a1⟩ := kx.duo; obtain ⟨a2, a3⟩ := kl.duo; have ozwm := hbwm.size; (try simp at ozwm))))
        have hBW : Below w.heap.size w wn := (by repeat (first | with_reducible exact Below.refl _ _ | with_reducible assumption | with_reducible refine Below.drew ?_ | with_reducible refine Below.drewN ?_ _ | with_reducible refine Below.alloc2 ?_ _ | with_reducible refine Below.alloc ?_ (by first | omega | (simp <;> omega)) _ | with_reducible refine Below.setCell ?_ (by first | omega | (simp <;> omega)) _ | with_reducible refine Below.step2 (by with_reducible assumption) ?_ | with_reducible refine Below.step (by with_reducible assumption) ?_ (by first | omega | (simp <;> omega))))
        have oxn := kx.lt
        go_wp2_with (first
          | (go_at_call 55; go_loud (with_reducible refine (rintH h1 ?_ (by omega)).mono ?_; (focus (exact (by repeat (first | with_reducible exact Below.refl _ _ | with_reducible assumption | with_reducible refine Below.drew ?_ | with_reducible refine Below.drewN ?_ _ | with_reducible refine Below.alloc2 ?_ _ | with_reducible refine Below.alloc ?_ (by first | omega | (simp <;> omega)) _ | with_reducible refine Below.setCell ?_ (by first | omega | (simp <;> omega)) _ | with_reducible refine Below.step2 (by with_reducible assumption) ?_ | with_reducible refine Below.step (by with_reducible assumption) ?_ (by first | omega | (simp <;> omega)))))); rintro e wi ⟨hbwi, si, Ai, ni, ci, rfl, hi⟩; obtain ⟨ll, gl, hzx, -⟩ := hi.lim; have hli := hi.len))
          | (go_at_call 54; go_loud (with_reducible refine (columnsH (LimA.of gl (Below.refl _ _)) ?_ (by omega)).mono ?_; (focus (exact (by repeat (first | with_reducible exact Below.refl _ _ | with_reducible assumption | with_reducible refine Below.drew ?_ | with_reducible refine Below.drewN ?_ _ | with_reducible refine Below.alloc2 ?_ _ | with_reducible refine Below.alloc ?_ (by first | omega | (simp <;> omega)) _ | with_reducible refine Below.setCell ?_ (by first | omega | (simp <;> omega)) _ | with_reducible refine Below.step2 (by with_reducible assumption) ?_ | with_reducible refine Below.step (by with_reducible assumption) ?_ (by first | omega | (simp <;> omega)))))); rintro e wj ⟨hbwj, Aj, cj, rfl, hj⟩)))
        have hBJ : Below w.heap.size w wj := (by repeat (first | with_reducible exact Below.refl _ _ | with_reducible assumption | with_reducible refine Below.drew ?_ | with_reducible refine Below.drewN ?_ _ | with_reducible refine Below.alloc2 ?_ _ | with_reducible refine Below.alloc ?_ (by first | omega | (simp <;> omega)) _ | with_reducible refine Below.setCell ?_ (by first | omega | (simp <;> omega)) _ | with_reducible refine Below.step2 (by with_reducible assumption) ?_ | with_reducible refine Below.step (by with_reducible assumption) ?_ (by first | omega | (simp <;> omega))))
        have hN := hj.all wj (Below.refl _ _)
        have q1 := hN.cap
        have q2 := hN.max
        have HNN := Lib.hid hN
        have HS := Lib.hid (cols_sign si ll)
        have HC := Lib.hid (show valc (cols si ll) = x by rw [valc_cols, hzx])
        have HL := Lib.hid hN.len
        have HV2 : Hid (smallV x = .tuple #[.int .i64 (valc (cols si ll)), .bool true]) := Lib.hid (by rw [HC.out]; exact HV.out)
        generalize cols si ll = cs at HNN HS HC HL HV2
        clear hN hj hbwj hi gl hzx hbwi
        go_wp2
        go_loop [6, 7] (fun v i => ∃ k : Nat, k ≤ 2 * ni ∧ i = .int .i64 ((k : Int) - 1) ∧ v = .int .i64 (valc (cs.drop k))) (fun _ i => (intOf i + 1).toNat)
        case atStart => exact ⟨2 * ni, Nat.le_refl _, rfl, by rw [List.drop_eq_nil_of_le (by rw [HL.out]; exact Nat.le_refl _)]; rfl⟩
        case round =>
          obtain ⟨k, hk, rfl, rfl⟩ := hrel
          rcases Nat.eq_zero_or_pos k with h0 | h0
          · subst h0
            have hz : ((0 : Nat) : Int) - 1 = -1 := by omega
            rw [hz]
            go_wp2
            refine bodyPost_ret (results_tmp2 rfl _ _ _) rfl ?_
            exact ⟨hBJ, by rw [HV2.out]; rfl⟩
          · obtain ⟨j, rfl⟩ : ∃ j, k = j + 1 := ⟨k - 1, by omega⟩
            have hz : ((j + 1 : Nat) : Int) - 1 = (j : Int) := by omega
            rw [hz]
            obtain ⟨b, o, y, rfl, hbb, hy, c0⟩ := HNN.out.at_ (show j < 2 * ni by omega)
            have d1 := drop_bd HS.out (a := -9223372036854775808) (b := 9223372036854775807) (by omega) (by omega) (by rw [HC.out]; omega) (by rw [HC.out]; omega) j
            have d2 := drop_mul HS.out (a := -9223372036854775808) (b := 9223372036854775807) (by omega) (by omega) (by rw [HC.out]; omega) (by rw [HC.out]; omega) hy
            have d3 := drop_step hy
            have HD := Lib.hid d3
            rw [d3] at d1
            generalize valc (cs.drop (j + 1)) = V at d1 d2 HD ⊢
            have d4 : -9223372036854775808 ≤ V * 65536 + y ∧ V * 65536 + y ≤ 9223372036854775807 := by omega
            clear d1 d3 hy hz
            go_wp2
            refine ⟨⟨j, by omega, rfl, congrArg (Value.int .i64) (by rw [HD.out]; omega)⟩, by (simp [intOf] <;> omega)⟩)
    · have hC2 : C2 = 0 := by rw [← HC2, cmpI_eq hy]
      subst hC2
      (
        have HV := Lib.hid (smallV_in (z := x) (by omega) (by omega))
        have hr1 : -9223372036854775808 ≤ x := by omega
        have hr2 : x ≤ 9223372036854775807 := by omega
        clear hx
        (try clear hy)
        go_region_held3 (fun w' => (w'.cell? ⟨w.heap.size, 0, none⟩ = some (.bool s) ∧ w'.cell? ⟨w.heap.size, 1, none⟩ = some (.slice A n c)) ∧ w'.cell? ⟨g, 0, none⟩ = some (.bool sl) ∧ w'.cell? ⟨g, 1, none⟩ = some (.slice Al nl cl)) (go_keep) (first
      | (go_at_call 23; go_loud (with_reducible refine (rcmpH (by assumption) (by assumption) ?_ ?_ (by omega) (by omega) (by assumption)).mono ?_; (focus (exact (by repeat (first | with_reducible exact Below.refl _ _ | with_reducible assumption | with_reducible refine Below.drew ?_ | with_reducible refine Below.drewN ?_ _ | with_reducible refine Below.alloc2 ?_ _ | with_reducible refine Below.alloc ?_ (by first | omega | (simp <;> omega)) _ | with_reducible refine Below.setCell ?_ (by first | omega | (simp <;> omega)) _ | with_reducible refine Below.step2 (by with_reducible assumption) ?_ | with_reducible refine Below.step (by with_reducible assumption) ?_ (by first | omega | (simp <;> omega)))))); (focus (exact (by repeat (first | with_reducible exact Below.refl _ _ | with_reducible assumption | with_reducible refine Below.drew ?_ | with_reducible refine Below.drewN ?_ _ | with_reducible refine Below.alloc2 ?_ _ | with_reducible refine Below.alloc ?_ (by first | omega | (simp <;> omega)) _ | with_reducible refine Below.setCell ?_ (by first | omega | (simp <;> omega)) _ | with_reducible refine Below.step2 (by with_reducible assumption) ?_ | with_reducible refine Below.step (by with_reducible assumption) ?_ (by first | omega | (simp <;> omega)))))); rintro e wn ⟨hbwn, rfl⟩; have qx : Bk wn w.heap.size 24 #[.bool s, .slice A n c] := (by repeat (first | with_reducible assumption | with_reducible exact Bk.at_ (by first | (simp; done) | omega) | with_reducible refine Bk.alloc ?_ _ | with_reducible refine Bk.drew ?_ | with_reducible refine Bk.drewN ?_ _ | with_reducible refine Bk.step (by with_reducible assumption) ?_ (by first | omega | (simp <;> omega)))); have ql : Bk wn g 24 #[.bool sl, .slice Al nl cl] := (by repeat (first | with_reducible assumption | with_reducible exact Bk.at_ (by first | (simp; done) | omega) | with_reducible refine Bk.alloc ?_ _ | with_reducible refine Bk.drew ?_ | with_reducible refine Bk.drewN ?_ _ | with_reducible refine Bk.step (by with_reducible assumption) ?_ (by first | omega | (simp <;> omega)))); clear kx kl a0 a1 a2 a3; have kx := qx; have kl := ql; clear qx ql; have ox := kx.lt; have ol := kl.lt; obtain ⟨a0, a1⟩ := kx.duo; obtain ⟨a2, a3⟩ := kl.duo; have ozwn := hbwn.size; (try simp at ozwn)))
      | (go_at_call 13; go_loud (with_reducible refine (rofH 9223372036854775807 _ (by omega) (by omega)).mono ?_; rintro e wm ⟨hbwm, sm, Am, nm, cm, rfl, hm⟩; have qx : Bk wm w.heap.size 24 #[.bool s, .slice A n c] := (by repeat (first | with_reducible assumption | with_reducible exact Bk.at_ (by first | (simp; done) | omega) | with_reducible refine Bk.alloc ?_ _ | with_reducible refine Bk.drew ?_ | with_reducible refine Bk.drewN ?_ _ | with_reducible refine Bk.step (by with_reducible assumption) ?_ (by first | omega | (simp <;> omega)))); have ql : Bk wm g 24 #[.bool sl, .slice Al nl cl] := (by repeat (first | with_reducible assumption | with_reducible exact Bk.at_ (by first | (simp; done) | omega) | with_reducible refine Bk.alloc ?_ _ | with_reducible refine Bk.drew ?_ | with_reducible refine Bk.drewN ?_ _ | with_reducible refine Bk.step (by with_reducible assumption) ?_ (by first | omega | (simp <;> omega)))); clear kx kl a0 a1 a2 a3; have kx := qx; have kl := ql; clear qx ql; have ox := kx.lt; have ol := kl.lt; obtain ⟨a0, a1⟩ := kx.duo; obtain ⟨a2, a3⟩ := kl.duo; have ozwm := hbwm.size; (try simp at ozwm))))
        have hBW : Below w.heap.size w wn := (by repeat (first | with_reducible exact Below.refl _ _ | with_reducible assumption | with_reducible refine Below.drew ?_ | with_reducible refine Below.drewN ?_ _ | with_reducible refine Below.alloc2 ?_ _ | with_reducible refine Below.alloc ?_ (by first | omega | (simp <;> omega)) _ | with_reducible refine Below.setCell ?_ (by first | omega | (simp <;> omega)) _ | with_reducible refine Below.step2 (by with_reducible assumption) ?_ | with_reducible refine Below.step (by with_reducible assumption) ?_ (by first | omega | (simp <;> omega))))
        have oxn := kx.lt
        go_wp2_with (first
          | (go_at_call 55; go_loud (with_reducible refine (rintH h1 ?_ (by omega)).mono ?_; (focus (exact (by repeat (first | with_reducible exact Below.refl _ _ | with_reducible assumption | with_reducible refine Below.drew ?_ | with_reducible refine Below.drewN ?_ _ | with_reducible refine Below.alloc2 ?_ _ | with_reducible refine Below.alloc ?_ (by first | omega | (simp <;> omega)) _ | with_reducible refine Below.setCell ?_ (by first | omega | (simp <;> omega)) _ | with_reducible refine Below.step2 (by with_reducible assumption) ?_ | with_reducible refine Below.step (by with_reducible assumption) ?_ (by first | omega | (simp <;> omega)))))); rintro e wi ⟨hbwi, si, Ai, ni, ci, rfl, hi⟩; obtain ⟨ll, gl, hzx, -⟩ := hi.lim; have hli := hi.len))
          | (go_at_call 54; go_loud (with_reducible refine (columnsH (LimA.of gl (Below.refl _ _)) ?_ (by omega)).mono ?_; (focus (exact (by repeat (first | with_reducible exact Below.refl _ _ | with_reducible assumption | with_reducible refine Below.drew ?_ | with_reducible refine Below.drewN ?_ _ | with_reducible refine Below.alloc2 ?_ _ | with_reducible refine Below.alloc ?_ (by first | omega | (simp <;> omega)) _ | with_reducible refine Below.setCell ?_ (by first | omega | (simp <;> omega)) _ | with_reducible refine Below.step2 (by with_reducible assumption) ?_ | with_reducible refine Below.step (by with_reducible assumption) ?_ (by first | omega | (simp <;> omega)))))); rintro e wj ⟨hbwj, Aj, cj, rfl, hj⟩)))
        have hBJ : Below w.heap.size w wj := (by repeat (first | with_reducible exact Below.refl _ _ | with_reducible assumption | with_reducible refine Below.drew ?_ | with_reducible refine Below.drewN ?_ _ | with_reducible refine Below.alloc2 ?_ _ | with_reducible refine Below.alloc ?_ (by first | omega | (simp <;> omega)) _ | with_reducible refine Below.setCell ?_ (by first | omega | (simp <;> omega)) _ | with_reducible refine Below.step2 (by with_reducible assumption) ?_ | with_reducible refine Below.step (by with_reducible assumption) ?_ (by first | omega | (simp <;> omega))))
        have hN := hj.all wj (Below.refl _ _)
        have q1 := hN.cap
        have q2 := hN.max
        have HNN := Lib.hid hN
        have HS := Lib.hid (cols_sign si ll)
        have HC := Lib.hid (show valc (cols si ll) = x by rw [valc_cols, hzx])
        have HL := Lib.hid hN.len
        have HV2 : Hid (smallV x = .tuple #[.int .i64 (valc (cols si ll)), .bool true]) := Lib.hid (by rw [HC.out]; exact HV.out)
        generalize cols si ll = cs at HNN HS HC HL HV2
        clear hN hj hbwj hi gl hzx hbwi
        go_wp2
        go_loop [6, 7] (fun v i => ∃ k : Nat, k ≤ 2 * ni ∧ i = .int .i64 ((k : Int) - 1) ∧ v = .int .i64 (valc (cs.drop k))) (fun _ i => (intOf i + 1).toNat)
        case atStart => exact ⟨2 * ni, Nat.le_refl _, rfl, by rw [List.drop_eq_nil_of_le (by rw [HL.out]; exact Nat.le_refl _)]; rfl⟩
        case round =>
          obtain ⟨k, hk, rfl, rfl⟩ := hrel
          rcases Nat.eq_zero_or_pos k with h0 | h0
          · subst h0
            have hz : ((0 : Nat) : Int) - 1 = -1 := by omega
            rw [hz]
            go_wp2
            refine bodyPost_ret (results_tmp2 rfl _ _ _) rfl ?_
            exact ⟨hBJ, by rw [HV2.out]; rfl⟩
          · obtain ⟨j, rfl⟩ : ∃ j, k = j + 1 := ⟨k - 1, by omega⟩
            have hz : ((j + 1 : Nat) : Int) - 1 = (j : Int) := by omega
            rw [hz]
            obtain ⟨b, o, y, rfl, hbb, hy, c0⟩ := HNN.out.at_ (show j < 2 * ni by omega)
            have d1 := drop_bd HS.out (a := -9223372036854775808) (b := 9223372036854775807) (by omega) (by omega) (by rw [HC.out]; omega) (by rw [HC.out]; omega) j
            have d2 := drop_mul HS.out (a := -9223372036854775808) (b := 9223372036854775807) (by omega) (by omega) (by rw [HC.out]; omega) (by rw [HC.out]; omega) hy
            have d3 := drop_step hy
            have HD := Lib.hid d3
            rw [d3] at d1
            generalize valc (cs.drop (j + 1)) = V at d1 d2 HD ⊢
            have d4 : -9223372036854775808 ≤ V * 65536 + y ∧ V * 65536 + y ≤ 9223372036854775807 := by omega
            clear d1 d3 hy hz
            go_wp2
            refine ⟨⟨j, by omega, rfl, congrArg (Value.int .i64) (by rw [HD.out]; omega)⟩, by (simp [intOf] <;> omega)⟩)
    · have hC2 : C2 = 1 := by rw [← HC2, cmpI_gt hy]
      subst hC2
      (
        have HV := Lib.hid (smallV_out (z := x) (by omega))
        go_region_held3 (fun w' => (w'.cell? ⟨w.heap.size, 0, none⟩ = some (.bool s) ∧ w'.cell? ⟨w.heap.size, 1, none⟩ = some (.slice A n c)) ∧ w'.cell? ⟨g, 0, none⟩ = some (.bool sl) ∧ w'.cell? ⟨g, 1, none⟩ = some (.slice Al nl cl)) (go_keep) (first
      | (go_at_call 23; go_loud (with_reducible refine (rcmpH (by assumption) (by assumption) ?_ ?_ (by omega) (by omega) (by assumption)).mono ?_; (focus (exact (by repeat (first | with_reducible exact Below.refl _ _ | with_reducible assumption | with_reducible refine Below.drew ?_ | with_reducible refine Below.drewN ?_ _ | with_reducible refine Below.alloc2 ?_ _ | with_reducible refine Below.alloc ?_ (by first | omega | (simp <;> omega)) _ | with_reducible refine Below.setCell ?_ (by first | omega | (simp <;> omega)) _ | with_reducible refine Below.step2 (by with_reducible assumption) ?_ | with_reducible refine Below.step (by with_reducible assumption) ?_ (by first | omega | (simp <;> omega)))))); (focus (exact (by repeat (first | with_reducible exact Below.refl _ _ | with_reducible assumption | with_reducible refine Below.drew ?_ | with_reducible refine Below.drewN ?_ _ | with_reducible refine Below.alloc2 ?_ _ | with_reducible refine Below.alloc ?_ (by first | omega | (simp <;> omega)) _ | with_reducible refine Below.setCell ?_ (by first | omega | (simp <;> omega)) _ | with_reducible refine Below.step2 (by with_reducible assumption) ?_ | with_reducible refine Below.step (by with_reducible assumption) ?_ (by first | omega | (simp <;> omega)))))); rintro e wn ⟨hbwn, rfl⟩; have qx : Bk wn w.heap.size 24 #[.bool s, .slice A n c] := (by repeat (first | with_reducible assumption | with_reducible exact Bk.at_ (by first | (simp; done) | omega) | with_reducible refine Bk.alloc ?_ _ | with_reducible refine Bk.drew ?_ | with_reducible refine Bk.drewN ?_ _ | with_reducible refine Bk.step (by with_reducible assumption) ?_ (by first | omega | (simp <;> omega)))); have ql : Bk wn g 24 #[.bool sl, .slice Al nl cl] := (by repeat (first | with_reducible assumption | with_reducible exact Bk.at_ (by first | (simp; done) | omega) | with_reducible refine Bk.alloc ?_ _ | with_reducible refine Bk.drew ?_ | with_reducible refine Bk.drewN ?_ _ | with_reducible refine Bk.step (by with_reducible assumption) ?_ (by first | omega | (simp <;> omega)))); clear kx kl a0 a1 a2 a3; have kx := qx; have kl := ql; clear qx ql; have ox := kx.lt; have ol := kl.lt; obtain ⟨a0, a1⟩ := kx.duo; obtain ⟨a2, a3⟩ := kl.duo; have ozwn := hbwn.size; (try simp at ozwn)))
      | (go_at_call 13; go_loud (with_reducible refine (rofH 9223372036854775807 _ (by omega) (by omega)).mono ?_; rintro e wm ⟨hbwm, sm, Am, nm, cm, rfl, hm⟩; have qx : Bk wm w.heap.size 24 #[.bool s, .slice A n c] := (by repeat (first | with_reducible assumption | with_reducible exact Bk.at_ (by first | (simp; done) | omega) | with_reducible refine Bk.alloc ?_ _ | with_reducible refine Bk.drew ?_ | with_reducible refine Bk.drewN ?_ _ | with_reducible refine Bk.step (by with_reducible assumption) ?_ (by first | omega | (simp <;> omega)))); have ql : Bk wm g 24 #[.bool sl, .slice Al nl cl] := (by repeat (first | with_reducible assumption | with_reducible exact Bk.at_ (by first | (simp; done) | omega) | with_reducible refine Bk.alloc ?_ _ | with_reducible refine Bk.drew ?_ | with_reducible refine Bk.drewN ?_ _ | with_reducible refine Bk.step (by with_reducible assumption) ?_ (by first | omega | (simp <;> omega)))); clear kx kl a0 a1 a2 a3; have kx := qx; have kl := ql; clear qx ql; have ox := kx.lt; have ol := kl.lt; obtain ⟨a0, a1⟩ := kx.duo; obtain ⟨a2, a3⟩ := kl.duo; have ozwm := hbwm.size; (try simp at ozwm))))
        have hBW : Below w.heap.size w wn := (by repeat (first | with_reducible exact Below.refl _ _ | with_reducible assumption | with_reducible refine Below.drew ?_ | with_reducible refine Below.drewN ?_ _ | with_reducible refine Below.alloc2 ?_ _ | with_reducible refine Below.alloc ?_ (by first | omega | (simp <;> omega)) _ | with_reducible refine Below.setCell ?_ (by first | omega | (simp <;> omega)) _ | with_reducible refine Below.step2 (by with_reducible assumption) ?_ | with_reducible refine Below.step (by with_reducible assumption) ?_ (by first | omega | (simp <;> omega))))
        go_wp2
        refine bodyPost_ret (results_tmp2 rfl _ _ _) rfl ?_
        exact ⟨hBW, by rw [HV.out]; rfl⟩)
end

end Go.Proofs.YtfnibkodccfocaaGreat
