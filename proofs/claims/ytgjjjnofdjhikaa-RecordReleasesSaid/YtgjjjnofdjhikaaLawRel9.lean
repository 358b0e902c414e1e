/- The law RecordReleases, out of its callees' contracts. -/
import Derived.Test.YtgjjjnofdjhikaaRelMath9
import Derived.Test.YtgjjjnofdjhikaaLawDue9
import Derived.BigQuiet
namespace Go.Proofs.Ytgjjjnofdjhikaa
open Go Go.RowKit Go.WideShapes

set_option maxRecDepth 100000 in
set_option maxHeartbeats 4000000 in
theorem lawRel_long (A : Option Addr) (n c : Nat) (l : List Ev) (p : ByteArray) (day : Int) (w : World) (h : Rws Ev.cs 6 w w.heap.size A n c l) (hl : shB l = false ∨ 30 < p.size) :
    Calls Try.prog 7 #[.slice A n c, .string p, .int .i64 day] w fun e w' => Below w.heap.size w w' ∧ e = .returned (.bool true) := by
  obtain ⟨b, hb⟩ : ∃ b, shB l = b := ⟨_, rfl⟩
  have SH : Hid (∀ W, Below w.heap.size w W → Calls Try.prog 10 #[.slice A n c] W fun e w' => W = w' ∧ e = .returned (.bool b)) := Lib.hid fun W hW => by
    have := short_any A n c _ l W (h.below hW (Nat.le_refl _) hW.size)
    rwa [hb] at this
  rw [hb] at hl
  clear h hb
  cases b
  · clear hl
    go_enter Try.func7, Try.ntmps7
    go_wp2_with (first | (go_at_call 9; refine (awake_true _).mono ?_; rintro e w1 ⟨hb1, rfl⟩; have HB1 : Hid (Below w.heap.size w w1) := Lib.hid hb1; clear hb1) | (go_at_call 10; refine (SH.out _ HB1.out).mono ?_; rintro e w' ⟨rfl, rfl⟩))
    go_ret
    exact ⟨HB1.out, rfl⟩
  · have h30 : decide ((p.size : Int) > 30) = true := decide_eq_true (by
      rcases hl with h | h
      · cases h
      · omega)
    clear hl
    go_enter Try.func7, Try.ntmps7
    go_wp2_with (first | (go_at_call 9; refine (awake_true _).mono ?_; rintro e w1 ⟨hb1, rfl⟩; have HB1 : Hid (Below w.heap.size w w1) := Lib.hid hb1; clear hb1) | (go_at_call 10; refine (SH.out _ HB1.out).mono ?_; rintro e w' ⟨rfl, rfl⟩))
    go_ret
    exact ⟨HB1.out, rfl⟩
set_option maxRecDepth 100000 in
set_option maxHeartbeats 8000000 in
theorem lawRel_not (A : Option Addr) (n c : Nat) (l : List Ev) (p : ByteArray) (day : Int) (w : World) (h : Rws Ev.cs 6 w w.heap.size A n c l) (hl : shB l = true) (hp : p.size ≤ 30) (ho : ∀ x ∈ l, evOk x) (hq : ¬ (qErr l p day = 0 ∧ tagR (reasonsR (l.filter (upF day)) p day) = 2)) :
    Calls Try.prog 7 #[.slice A n c, .string p, .int .i64 day] w fun e w' => Below w.heap.size w w' ∧ e = .returned (.bool true) := by
  have hcap := h.cap
  have hmax := h.max
  have HLEN := Lib.hid h.len
  have H : Hid (∀ W, Below w.heap.size w W → Rws Ev.cs 6 W W.heap.size A n c l) := fun W hW => h.below hW (Nat.le_refl _) hW.size
  have hn405 := (shB_facts hl).1
  rw [HLEN.out] at hn405
  have hs : n ≤ 400 → ∀ x ∈ l, x.p.size ≤ 30 := fun hq => (shB_facts hl).2 (by rw [HLEN.out]; exact hq)
  have SH : Hid (∀ W, Below w.heap.size w W → Calls Try.prog 10 #[.slice A n c] W fun e w' => W = w' ∧ e = .returned (.bool true)) := Lib.hid fun W hW => by
    have := short_any A n c _ l W (H.out W hW)
    rwa [hl] at this
  have CP : Hid (∀ W, Below w.heap.size w W → Calls Try.prog 13 #[.slice A n c] W fun e w' => Below W.heap.size W w' ∧ ∃ v, e = .returned v ∧ w'.ownsRow W.heap.size 24 6 v n (l.flatMap Ev.cs)) := Lib.hid fun W hW =>
    copied_any A n c l W (H.out W hW) (by omega)
  have h30 : decide ((p.size : Int) > 30) = false := decide_eq_false (by omega)
  by_cases hE : qErr l p day = 0
  · have hR := (qErr_zero hE).1
    have hn4 := recErr_small hR
    rw [HLEN.out] at hn4
    obtain ⟨T, hT⟩ : ∃ T, tagR (reasonsR (l.filter (upF day)) p day) = T := ⟨_, rfl⟩
    have TA : Hid (∀ A c W, Rws Ev.cs 6 W W.heap.size A n c l → Calls Try.prog 20 #[.slice A n c, .string p, .int .i64 day] W fun e w' => Below W.heap.size W w' ∧ e = .returned (.tuple #[.int .i64 T, .int .i64 0])) := Lib.hid fun A c W hW => by
      have := tagP_ok A n c l p day W hW (hs hn4) ho hE
      rwa [hT] at this
    have h2 : (T != 2) = true := by
      have : T ≠ 2 := fun e => hq ⟨hE, hT.trans e⟩
      simpa using this
    clear h ho hs hl hE hR hT hq hp
    go_enter Try.func7, Try.ntmps7
    go_wp2_with (first | (go_at_call 9; refine (awake_true _).mono ?_; rintro e w1 ⟨hb1, rfl⟩; have HB1 : Hid (Below w.heap.size w w1) := Lib.hid hb1; clear hb1) | (go_at_call 10; refine (SH.out _ HB1.out).mono ?_; rintro e w' ⟨rfl, rfl⟩) | (go_at_call 20; refine (TA.out _ _ _ HR2.out).mono ?_; rintro e w3 ⟨hb3, rfl⟩; have HB3 : Hid (Below w.heap.size w w3) := Lib.hid (HB2.out.trans (hb3.mono HB2.out.size)); have HS3 := Lib.hid hb3; have ol3 := HB3.out.size; clear hb3) | (go_at_call 13; refine (CP.out _ HB1.out).mono ?_; rintro e w2 ⟨hb2, v, rfl, hown⟩; obtain ⟨A2, c2, rfl, hr⟩ := Rws.of_own hown HLEN.out; have HR2 := Lib.hid hr; clear hown hr; have HB2 : Hid (Below w.heap.size w w2) := Lib.hid (HB1.out.trans (hb2.mono HB1.out.size)); have HS2 := Lib.hid hb2; have ol2 := HB2.out.size; clear hb2))
    go_ret
    exact ⟨HB3.out, rfl⟩
  · obtain ⟨E, hE2⟩ : ∃ E, qErr l p day = E := ⟨_, rfl⟩
    have TA : Hid (∀ A c W, Rws Ev.cs 6 W W.heap.size A n c l → Calls Try.prog 20 #[.slice A n c, .string p, .int .i64 day] W fun e w' => Below W.heap.size W w' ∧ e = .returned (.tuple #[.int .i64 0, .int .i64 E])) := Lib.hid fun A c W hW => tagP_bad A n c l p day W hW hs ho E hE2 (by rw [← hE2]; exact hE)
    have h0 : (E != 0) = true := by
      have : E ≠ 0 := by rw [← hE2]; exact hE
      simpa using this
    clear h ho hs hl hE hE2 hq hp
    go_enter Try.func7, Try.ntmps7
    go_wp2_with (first | (go_at_call 9; refine (awake_true _).mono ?_; rintro e w1 ⟨hb1, rfl⟩; have HB1 : Hid (Below w.heap.size w w1) := Lib.hid hb1; clear hb1) | (go_at_call 10; refine (SH.out _ HB1.out).mono ?_; rintro e w' ⟨rfl, rfl⟩) | (go_at_call 20; refine (TA.out _ _ _ HR2.out).mono ?_; rintro e w3 ⟨hb3, rfl⟩; have HB3 : Hid (Below w.heap.size w w3) := Lib.hid (HB2.out.trans (hb3.mono HB2.out.size)); have HS3 := Lib.hid hb3; have ol3 := HB3.out.size; clear hb3) | (go_at_call 13; refine (CP.out _ HB1.out).mono ?_; rintro e w2 ⟨hb2, v, rfl, hown⟩; obtain ⟨A2, c2, rfl, hr⟩ := Rws.of_own hown HLEN.out; have HR2 := Lib.hid hr; clear hown hr; have HB2 : Hid (Below w.heap.size w w2) := Lib.hid (HB1.out.trans (hb2.mono HB1.out.size)); have HS2 := Lib.hid hb2; have ol2 := HB2.out.size; clear hb2))
    go_ret
    exact ⟨HB3.out, rfl⟩
theorem rec_kinds : ∀ {l seen : List Ev}, rGo seen l = 0 → ∀ x ∈ l, inR 0 6 x.k = true
  | y :: r, seen, h, x, hx => by
    rw [rGo] at h
    split at h
    · rename_i h0
      rcases List.mem_cons.1 hx with rfl | hx
      · exact (eE_zero h0).2.1
      · exact rec_kinds h x hx
    · contradiction
theorem lw_yes {l : List Ev} {k : Nat} {x : Ev} {p : ByteArray} {day : Int} {s : Lw} (hx : l[k]? = some x) (hs : lwOf ((l.take k).filter (ownE p day)) = s) (h : ownE p day x = true) : lwOf ((l.take (k + 1)).filter (ownE p day)) = lwF s x := by
  rw [take_step hx, List.filter_append, ← hs]
  simp [h, lwOf]
theorem lw_no {l : List Ev} {k : Nat} {x : Ev} {p : ByteArray} {day : Int} {s : Lw} (hx : l[k]? = some x) (hs : lwOf ((l.take k).filter (ownE p day)) = s) (h : ownE p day x = false) : lwOf ((l.take (k + 1)).filter (ownE p day)) = s := by
  rw [take_step hx, List.filter_append, ← hs]
  simp [h]
theorem own_empty {w : World} {base g e : Nat} (hb : Bk w g e #[]) (hg : base ≤ g) : w.ownsRow base e 1 (.slice (some ⟨g, 0, none⟩) 0 0) 0 [] :=
  ⟨rfl, .inr ⟨g, 0, #[], rfl, hg, hb, Nat.le_refl _, by unfold maxLen; omega, rfl, rfl⟩⟩
theorem flt_step {l : List Int} {j : Nat} {z n : Int} {R : List Int} (hx : l[j]? = some z) (h : ((l.take j).filter fun z => decide (z ≠ n)) = R) : ((l.take (j + 1)).filter fun z => decide (z ≠ n)) = R ++ if z = n then [] else [z] := by
  rw [take_step hx, List.filter_append, h]
  by_cases hd : z = n <;> simp [hd]
set_option maxRecDepth 100000 in
set_option maxHeartbeats 16000000 in
theorem lawRel_green (A : Option Addr) (n c : Nat) (l : List Ev) (p : ByteArray) (day : Int) (w : World) (h : Rws Ev.cs 6 w w.heap.size A n c l) (hl : shB l = true) (hp : p.size ≤ 30) (ho : ∀ x ∈ l, evOk x) (hE : qErr l p day = 0) (hT : tagR (reasonsR (l.filter (upF day)) p day) = 2) :
    Calls Try.prog 7 #[.slice A n c, .string p, .int .i64 day] w fun e w' => Below w.heap.size w w' ∧ e = .returned (.bool true) := by
  have hcap := h.cap
  have hmax := h.max
  have HLEN := Lib.hid h.len
  have H : Hid (∀ W, Below w.heap.size w W → Rws Ev.cs 6 W W.heap.size A n c l) := fun W hW => h.below hW (Nat.le_refl _) hW.size
  have hn405 := (shB_facts hl).1
  rw [HLEN.out] at hn405
  have hs : n ≤ 400 → ∀ x ∈ l, x.p.size ≤ 30 := fun hq => (shB_facts hl).2 (by rw [HLEN.out]; exact hq)
  have SH : Hid (∀ W, Below w.heap.size w W → Calls Try.prog 10 #[.slice A n c] W fun e w' => W = w' ∧ e = .returned (.bool true)) := Lib.hid fun W hW => by
    have := short_any A n c _ l W (H.out W hW)
    rwa [hl] at this
  have CP : Hid (∀ W, Below w.heap.size w W → Calls Try.prog 13 #[.slice A n c] W fun e w' => Below W.heap.size W w' ∧ ∃ v, e = .returned v ∧ w'.ownsRow W.heap.size 24 6 v n (l.flatMap Ev.cs)) := Lib.hid fun W hW =>
    copied_any A n c l W (H.out W hW) (by omega)
  have h30 : decide ((p.size : Int) > 30) = false := decide_eq_false (by omega)
  obtain ⟨hR, hD, hP⟩ := qErr_zero hE
  have hn4 := recErr_small hR
  rw [HLEN.out] at hn4
  have TA : Hid (∀ A c W, Rws Ev.cs 6 W W.heap.size A n c l → Calls Try.prog 20 #[.slice A n c, .string p, .int .i64 day] W fun e w' => Below W.heap.size W w' ∧ e = .returned (.tuple #[.int .i64 2, .int .i64 0])) := Lib.hid fun A c W hW => by
    have := tagP_ok A n c l p day W hW (hs hn4) ho hE
    rwa [hT] at this
  have hp0 : p.size ≠ 0 := fun hz => (platsR_ne (of_decide_eq_true hP)).1 (size_nil hz)
  have GL := Lib.hid (green_law hR ho hp0 hp hT)
  have HDAY := dayB_iff.1 hD
  have HFR : Hid (-1 ≤ (lwOf (l.filter (ownE p day))).fr ∧ (lwOf (l.filter (ownE p day))).fr ≤ 1000000000) := Lib.hid (lw_fr _ _ (fun x hx => rec_days hR x (List.mem_filter.1 hx).1) (by simp [lw0]))
  have HOL : Hid (∀ k, (lwOf ((l.take k).filter (ownE p day))).op.length ≤ 1000) := Lib.hid fun k => by
    have h1 := lw_len ((l.take k).filter (ownE p day)) lw0
    have h2 := List.length_filter_le (ownE p day) (l.take k)
    have h3 : (l.take k).length ≤ l.length := by rw [List.length_take]; omega
    have h4 := HLEN.out
    have h5 : lw0.op.length = 0 := rfl
    unfold lwOf
    omega
  have HKD := Lib.hid (rec_kinds (rec_go hR))
  clear h ho hs hl hE hR hD hP hp hT
  go_enter Try.func7, Try.ntmps7
  go_wp2_with (first | (go_at_call 9; refine (awake_true _).mono ?_; rintro e w1 ⟨hb1, rfl⟩; have HB1 : Hid (Below w.heap.size w w1) := Lib.hid hb1; clear hb1) | (go_at_call 10; refine (SH.out _ HB1.out).mono ?_; rintro e w' ⟨rfl, rfl⟩) | (go_at_call 20; refine (TA.out _ _ _ HR2.out).mono ?_; rintro e w3 ⟨hb3, rfl⟩; have HB3 : Hid (Below w.heap.size w w3) := Lib.hid (HB2.out.trans (hb3.mono HB2.out.size)); have HS3 := Lib.hid hb3; have ol3 := HB3.out.size; clear hb3) | (go_at_call 13; refine (CP.out _ HB1.out).mono ?_; rintro e w2 ⟨hb2, v, rfl, hown⟩; obtain ⟨A2, c2, rfl, hr⟩ := Rws.of_own hown HLEN.out; have HR2 := Lib.hid hr; clear hown hr; have HB2 : Hid (Below w.heap.size w w2) := Lib.hid (HB1.out.trans (hb2.mono HB1.out.size)); have HS2 := Lib.hid hb2; have ol2 := HB2.out.size; clear hb2))
  go_loopw [9, 10, 11, 12, 13, 14, 15, 16] (fun de ho fr op i _ _ _ wr => ∃ (k : Nat) (s : Lw), k ≤ n ∧ i = .int .i64 k ∧ Hid (lwOf ((l.take k).filter (ownE p day)) = s) ∧ de = .bool s.de ∧ ho = .bool s.ho ∧ fr = .int .i64 s.fr ∧ wr.ownsRow w3.heap.size 3 1 op s.op.length (i64s s.op) ∧ Below w3.heap.size w3 wr) (fun _ _ _ _ i _ _ _ _ => n - (intOf i).toNat)
  case atStart => exact ⟨0, lw0, Nat.zero_le _, rfl, Lib.hid rfl, rfl, rfl, rfl, own_empty (Bk.at_ rfl) (Nat.le_refl _), (Below.refl _ _).alloc (Nat.le_refl _) _⟩
  case round =>
    obtain ⟨k, ⟨sde, sho, sfr, sop⟩, hk, rfl, HS0, rfl, rfl, rfl, hown, hb⟩ := hrel
    dsimp only at hown
    have hol : sop.length ≤ 1000 := by have := HOL.out k; rwa [HS0.out] at this
    have HB := Lib.hid hb
    have HOWN := Lib.hid hown
    have HBW : Hid (Below w.heap.size w wr) := Lib.hid (HB3.out.trans (hb.mono HB3.out.size))
    have ow := hb.size
    clear hown hb
    by_cases hlt : k < n
    · obtain ⟨b, o, ⟨xd, xk, xp, xn, xs, xg⟩, rfl, hbb, hx, c0, c1, c2, c3, c4, c5⟩ := (H.out _ HBW.out).ev hlt
      dsimp only at c0 c1 c2 c3 c4 c5
      have HX := Lib.hid hx
      have h7 := seven (HKD.out _ (List.mem_of_getElem? hx))
      dsimp only at h7
      have HWQ : Hid (∀ v v3 vd, (xp.toList == p.toList) = v → (xk == 3) = v3 → decide (xd > day) = vd → ownE p day ⟨xd, xk, xp, xn, xs, xg⟩ = (!vd && (v || v3))) := Lib.hid (by
        rintro v v3 vd rfl rfl rfl
        show (decide (xd ≤ day) && (eqS xp p || decide (xk = 3))) = _
        rw [eqS]
        have e : decide (xd ≤ day) = !decide (xd > day) := by by_cases h : xd ≤ day <;> simp [h] <;> omega
        rw [e]
        congr 2)
      obtain ⟨v, hv⟩ : ∃ v, (xp.toList == p.toList) = v := ⟨_, rfl⟩
      obtain ⟨vd, hvd⟩ : ∃ v, decide (xd > day) = v := ⟨_, rfl⟩
      clear hx
      cases vd
      rotate_left
      · have HN := Lib.hid (lw_no HX.out HS0.out ((HWQ.out _ _ _ hv rfl hvd).trans (by simp)))
        clear h7
        (go_wp2
         go_roundw
         case rel => exact ⟨k + 1, ⟨sde, sho, sfr, sop⟩, by omega, by go_num, HN, rfl, rfl, rfl, own_step HOWN.out (by exact (by repeat (first | with_reducible exact Below.refl _ _ | with_reducible assumption | with_reducible refine Below.drew ?_ | with_reducible refine Below.drewN ?_ _ | with_reducible refine Below.alloc2 ?_ _ | with_reducible refine Below.alloc ?_ (by first | omega | (simp <;> omega)) _ | with_reducible refine Below.setCell ?_ (by first | omega | (simp <;> omega)) _ | with_reducible refine Below.step2 (by with_reducible assumption) ?_ | with_reducible refine Below.step (by with_reducible assumption) ?_ (by first | omega | (simp <;> omega))))), (by have hb0 := HB.out; exact (by repeat (first | with_reducible exact Below.refl _ _ | with_reducible assumption | with_reducible refine Below.drew ?_ | with_reducible refine Below.drewN ?_ _ | with_reducible refine Below.alloc2 ?_ _ | with_reducible refine Below.alloc ?_ (by first | omega | (simp <;> omega)) _ | with_reducible refine Below.setCell ?_ (by first | omega | (simp <;> omega)) _ | with_reducible refine Below.step2 (by with_reducible assumption) ?_ | with_reducible refine Below.step (by with_reducible assumption) ?_ (by first | omega | (simp <;> omega)))))⟩
         case measure => simp [intOf]; omega)
      cases v
      · obtain ⟨v3, hv3⟩ : ∃ v, (xk == 3) = v := ⟨_, rfl⟩
        cases v3
        · have HN := Lib.hid (lw_no HX.out HS0.out ((HWQ.out _ _ _ hv hv3 hvd).trans (by simp)))
          clear h7
          (go_wp2
           go_roundw
           case rel => exact ⟨k + 1, ⟨sde, sho, sfr, sop⟩, by omega, by go_num, HN, rfl, rfl, rfl, own_step HOWN.out (by exact (by repeat (first | with_reducible exact Below.refl _ _ | with_reducible assumption | with_reducible refine Below.drew ?_ | with_reducible refine Below.drewN ?_ _ | with_reducible refine Below.alloc2 ?_ _ | with_reducible refine Below.alloc ?_ (by first | omega | (simp <;> omega)) _ | with_reducible refine Below.setCell ?_ (by first | omega | (simp <;> omega)) _ | with_reducible refine Below.step2 (by with_reducible assumption) ?_ | with_reducible refine Below.step (by with_reducible assumption) ?_ (by first | omega | (simp <;> omega))))), (by have hb0 := HB.out; exact (by repeat (first | with_reducible exact Below.refl _ _ | with_reducible assumption | with_reducible refine Below.drew ?_ | with_reducible refine Below.drewN ?_ _ | with_reducible refine Below.alloc2 ?_ _ | with_reducible refine Below.alloc ?_ (by first | omega | (simp <;> omega)) _ | with_reducible refine Below.setCell ?_ (by first | omega | (simp <;> omega)) _ | with_reducible refine Below.step2 (by with_reducible assumption) ?_ | with_reducible refine Below.step (by with_reducible assumption) ?_ (by first | omega | (simp <;> omega)))))⟩
           case measure => simp [intOf]; omega)
        · have HW : Hid (ownE p day ⟨xd, xk, xp, xn, xs, xg⟩ = true) := Lib.hid ((HWQ.out _ _ _ hv hv3 hvd).trans (by simp))
          obtain rfl : xk = 3 := by simpa using hv3
          clear h7 HWQ hv3
          (have HN : Hid (lwOf ((l.take (k + 1)).filter (ownE p day)) = ⟨sde, sho, -1, sop⟩) := Lib.hid (by rw [lw_yes HX.out HS0.out HW.out]; simp [lwF])
           go_wp2
           go_roundw
           case rel => exact ⟨k + 1, ⟨sde, sho, -1, sop⟩, by omega, by go_num, HN, rfl, rfl, rfl, own_step HOWN.out (by exact (by repeat (first | with_reducible exact Below.refl _ _ | with_reducible assumption | with_reducible refine Below.drew ?_ | with_reducible refine Below.drewN ?_ _ | with_reducible refine Below.alloc2 ?_ _ | with_reducible refine Below.alloc ?_ (by first | omega | (simp <;> omega)) _ | with_reducible refine Below.setCell ?_ (by first | omega | (simp <;> omega)) _ | with_reducible refine Below.step2 (by with_reducible assumption) ?_ | with_reducible refine Below.step (by with_reducible assumption) ?_ (by first | omega | (simp <;> omega))))), (by have hb0 := HB.out; exact (by repeat (first | with_reducible exact Below.refl _ _ | with_reducible assumption | with_reducible refine Below.drew ?_ | with_reducible refine Below.drewN ?_ _ | with_reducible refine Below.alloc2 ?_ _ | with_reducible refine Below.alloc ?_ (by first | omega | (simp <;> omega)) _ | with_reducible refine Below.setCell ?_ (by first | omega | (simp <;> omega)) _ | with_reducible refine Below.step2 (by with_reducible assumption) ?_ | with_reducible refine Below.step (by with_reducible assumption) ?_ (by first | omega | (simp <;> omega)))))⟩
           case measure => simp [intOf]; omega)
      · have HW : Hid (ownE p day ⟨xd, xk, xp, xn, xs, xg⟩ = true) := Lib.hid ((HWQ.out _ _ _ hv rfl hvd).trans (by simp))
        clear HWQ
        rcases h7 with rfl | rfl | rfl | rfl | rfl | rfl | rfl
        · (have HN : Hid (lwOf ((l.take (k + 1)).filter (ownE p day)) = ⟨true, false, sfr, sop⟩) := Lib.hid (by rw [lw_yes HX.out HS0.out HW.out]; simp [lwF])
           go_wp2
           go_roundw
           case rel => exact ⟨k + 1, ⟨true, false, sfr, sop⟩, by omega, by go_num, HN, rfl, rfl, rfl, own_step HOWN.out (by exact (by repeat (first | with_reducible exact Below.refl _ _ | with_reducible assumption | with_reducible refine Below.drew ?_ | with_reducible refine Below.drewN ?_ _ | with_reducible refine Below.alloc2 ?_ _ | with_reducible refine Below.alloc ?_ (by first | omega | (simp <;> omega)) _ | with_reducible refine Below.setCell ?_ (by first | omega | (simp <;> omega)) _ | with_reducible refine Below.step2 (by with_reducible assumption) ?_ | with_reducible refine Below.step (by with_reducible assumption) ?_ (by first | omega | (simp <;> omega))))), (by have hb0 := HB.out; exact (by repeat (first | with_reducible exact Below.refl _ _ | with_reducible assumption | with_reducible refine Below.drew ?_ | with_reducible refine Below.drewN ?_ _ | with_reducible refine Below.alloc2 ?_ _ | with_reducible refine Below.alloc ?_ (by first | omega | (simp <;> omega)) _ | with_reducible refine Below.setCell ?_ (by first | omega | (simp <;> omega)) _ | with_reducible refine Below.step2 (by with_reducible assumption) ?_ | with_reducible refine Below.step (by with_reducible assumption) ?_ (by first | omega | (simp <;> omega)))))⟩
           case measure => simp [intOf]; omega)
        · cases xs
          · (have HN : Hid (lwOf ((l.take (k + 1)).filter (ownE p day)) = ⟨sde, false, -1, sop⟩) := Lib.hid (by rw [lw_yes HX.out HS0.out HW.out]; simp [lwF])
             go_wp2
             go_roundw
             case rel => exact ⟨k + 1, ⟨sde, false, -1, sop⟩, by omega, by go_num, HN, rfl, rfl, rfl, own_step HOWN.out (by exact (by repeat (first | with_reducible exact Below.refl _ _ | with_reducible assumption | with_reducible refine Below.drew ?_ | with_reducible refine Below.drewN ?_ _ | with_reducible refine Below.alloc2 ?_ _ | with_reducible refine Below.alloc ?_ (by first | omega | (simp <;> omega)) _ | with_reducible refine Below.setCell ?_ (by first | omega | (simp <;> omega)) _ | with_reducible refine Below.step2 (by with_reducible assumption) ?_ | with_reducible refine Below.step (by with_reducible assumption) ?_ (by first | omega | (simp <;> omega))))), (by have hb0 := HB.out; exact (by repeat (first | with_reducible exact Below.refl _ _ | with_reducible assumption | with_reducible refine Below.drew ?_ | with_reducible refine Below.drewN ?_ _ | with_reducible refine Below.alloc2 ?_ _ | with_reducible refine Below.alloc ?_ (by first | omega | (simp <;> omega)) _ | with_reducible refine Below.setCell ?_ (by first | omega | (simp <;> omega)) _ | with_reducible refine Below.step2 (by with_reducible assumption) ?_ | with_reducible refine Below.step (by with_reducible assumption) ?_ (by first | omega | (simp <;> omega)))))⟩
             case measure => simp [intOf]; omega)
          · (have HN : Hid (lwOf ((l.take (k + 1)).filter (ownE p day)) = ⟨sde, true, xd, sop⟩) := Lib.hid (by rw [lw_yes HX.out HS0.out HW.out]; simp [lwF])
             go_wp2
             go_roundw
             case rel => exact ⟨k + 1, ⟨sde, true, xd, sop⟩, by omega, by go_num, HN, rfl, rfl, rfl, own_step HOWN.out (by exact (by repeat (first | with_reducible exact Below.refl _ _ | with_reducible assumption | with_reducible refine Below.drew ?_ | with_reducible refine Below.drewN ?_ _ | with_reducible refine Below.alloc2 ?_ _ | with_reducible refine Below.alloc ?_ (by first | omega | (simp <;> omega)) _ | with_reducible refine Below.setCell ?_ (by first | omega | (simp <;> omega)) _ | with_reducible refine Below.step2 (by with_reducible assumption) ?_ | with_reducible refine Below.step (by with_reducible assumption) ?_ (by first | omega | (simp <;> omega))))), (by have hb0 := HB.out; exact (by repeat (first | with_reducible exact Below.refl _ _ | with_reducible assumption | with_reducible refine Below.drew ?_ | with_reducible refine Below.drewN ?_ _ | with_reducible refine Below.alloc2 ?_ _ | with_reducible refine Below.alloc ?_ (by first | omega | (simp <;> omega)) _ | with_reducible refine Below.setCell ?_ (by first | omega | (simp <;> omega)) _ | with_reducible refine Below.step2 (by with_reducible assumption) ?_ | with_reducible refine Below.step (by with_reducible assumption) ?_ (by first | omega | (simp <;> omega)))))⟩
             case measure => simp [intOf]; omega)
        · cases xs
          · (have HN : Hid (lwOf ((l.take (k + 1)).filter (ownE p day)) = ⟨sde, sho, -1, sop⟩) := Lib.hid (by rw [lw_yes HX.out HS0.out HW.out]; simp [lwF])
             go_wp2
             go_roundw
             case rel => exact ⟨k + 1, ⟨sde, sho, -1, sop⟩, by omega, by go_num, HN, rfl, rfl, rfl, own_step HOWN.out (by exact (by repeat (first | with_reducible exact Below.refl _ _ | with_reducible assumption | with_reducible refine Below.drew ?_ | with_reducible refine Below.drewN ?_ _ | with_reducible refine Below.alloc2 ?_ _ | with_reducible refine Below.alloc ?_ (by first | omega | (simp <;> omega)) _ | with_reducible refine Below.setCell ?_ (by first | omega | (simp <;> omega)) _ | with_reducible refine Below.step2 (by with_reducible assumption) ?_ | with_reducible refine Below.step (by with_reducible assumption) ?_ (by first | omega | (simp <;> omega))))), (by have hb0 := HB.out; exact (by repeat (first | with_reducible exact Below.refl _ _ | with_reducible assumption | with_reducible refine Below.drew ?_ | with_reducible refine Below.drewN ?_ _ | with_reducible refine Below.alloc2 ?_ _ | with_reducible refine Below.alloc ?_ (by first | omega | (simp <;> omega)) _ | with_reducible refine Below.setCell ?_ (by first | omega | (simp <;> omega)) _ | with_reducible refine Below.step2 (by with_reducible assumption) ?_ | with_reducible refine Below.step (by with_reducible assumption) ?_ (by first | omega | (simp <;> omega)))))⟩
             case measure => simp [intOf]; omega)
          · (have HN : Hid (lwOf ((l.take (k + 1)).filter (ownE p day)) = ⟨sde, sho, xd, sop⟩) := Lib.hid (by rw [lw_yes HX.out HS0.out HW.out]; simp [lwF])
             go_wp2
             go_roundw
             case rel => exact ⟨k + 1, ⟨sde, sho, xd, sop⟩, by omega, by go_num, HN, rfl, rfl, rfl, own_step HOWN.out (by exact (by repeat (first | with_reducible exact Below.refl _ _ | with_reducible assumption | with_reducible refine Below.drew ?_ | with_reducible refine Below.drewN ?_ _ | with_reducible refine Below.alloc2 ?_ _ | with_reducible refine Below.alloc ?_ (by first | omega | (simp <;> omega)) _ | with_reducible refine Below.setCell ?_ (by first | omega | (simp <;> omega)) _ | with_reducible refine Below.step2 (by with_reducible assumption) ?_ | with_reducible refine Below.step (by with_reducible assumption) ?_ (by first | omega | (simp <;> omega))))), (by have hb0 := HB.out; exact (by repeat (first | with_reducible exact Below.refl _ _ | with_reducible assumption | with_reducible refine Below.drew ?_ | with_reducible refine Below.drewN ?_ _ | with_reducible refine Below.alloc2 ?_ _ | with_reducible refine Below.alloc ?_ (by first | omega | (simp <;> omega)) _ | with_reducible refine Below.setCell ?_ (by first | omega | (simp <;> omega)) _ | with_reducible refine Below.step2 (by with_reducible assumption) ?_ | with_reducible refine Below.step (by with_reducible assumption) ?_ (by first | omega | (simp <;> omega)))))⟩
             case measure => simp [intOf]; omega)
        · (have HN : Hid (lwOf ((l.take (k + 1)).filter (ownE p day)) = ⟨sde, sho, -1, sop⟩) := Lib.hid (by rw [lw_yes HX.out HS0.out HW.out]; simp [lwF])
           go_wp2
           go_roundw
           case rel => exact ⟨k + 1, ⟨sde, sho, -1, sop⟩, by omega, by go_num, HN, rfl, rfl, rfl, own_step HOWN.out (by exact (by repeat (first | with_reducible exact Below.refl _ _ | with_reducible assumption | with_reducible refine Below.drew ?_ | with_reducible refine Below.drewN ?_ _ | with_reducible refine Below.alloc2 ?_ _ | with_reducible refine Below.alloc ?_ (by first | omega | (simp <;> omega)) _ | with_reducible refine Below.setCell ?_ (by first | omega | (simp <;> omega)) _ | with_reducible refine Below.step2 (by with_reducible assumption) ?_ | with_reducible refine Below.step (by with_reducible assumption) ?_ (by first | omega | (simp <;> omega))))), (by have hb0 := HB.out; exact (by repeat (first | with_reducible exact Below.refl _ _ | with_reducible assumption | with_reducible refine Below.drew ?_ | with_reducible refine Below.drewN ?_ _ | with_reducible refine Below.alloc2 ?_ _ | with_reducible refine Below.alloc ?_ (by first | omega | (simp <;> omega)) _ | with_reducible refine Below.setCell ?_ (by first | omega | (simp <;> omega)) _ | with_reducible refine Below.step2 (by with_reducible assumption) ?_ | with_reducible refine Below.step (by with_reducible assumption) ?_ (by first | omega | (simp <;> omega)))))⟩
           case measure => simp [intOf]; omega)
        · have HN : Hid (lwOf ((l.take (k + 1)).filter (ownE p day)) = ⟨sde, sho, sfr, sop ++ [xn]⟩) := Lib.hid (by rw [lw_yes HX.out HS0.out HW.out]; simp [lwF])
          go_wp2_with (at_builtin; go_loud (refine app_i (W := sop) (base := w3.heap.size) (vw := u12) ?_ rfl _ _ rfl rfl xn _ rfl ?_ (by omega) ?_ ?_; (exact own_step HOWN.out (by exact (by repeat (first | with_reducible exact Below.refl _ _ | with_reducible assumption | with_reducible refine Below.drew ?_ | with_reducible refine Below.drewN ?_ _ | with_reducible refine Below.alloc2 ?_ _ | with_reducible refine Below.alloc ?_ (by first | omega | (simp <;> omega)) _ | with_reducible refine Below.setCell ?_ (by first | omega | (simp <;> omega)) _ | with_reducible refine Below.step2 (by with_reducible assumption) ?_ | with_reducible refine Below.step (by with_reducible assumption) ?_ (by first | omega | (simp <;> omega)))))); (focus (exact (by repeat (first | with_reducible assumption | with_reducible exact Bk.at_ (by first | (simp; done) | omega) | with_reducible refine Bk.alloc ?_ _ | with_reducible refine Bk.drew ?_ | with_reducible refine Bk.drewN ?_ _ | with_reducible refine Bk.step (by with_reducible assumption) ?_ (by first | omega | (simp <;> omega)))))); (focus (have := HB.out.size; first | (simp; done) | (simp; omega) | omega)); intro v4 w4 ho4 hg4; have HO4 := Lib.hid ho4; have HB4 : Hid (Below w3.heap.size w3 w4) := Lib.hid (Below.grown_ (by have hb0 := HB.out; exact (by repeat (first | with_reducible exact Below.refl _ _ | with_reducible assumption | with_reducible refine Below.drew ?_ | with_reducible refine Below.drewN ?_ _ | with_reducible refine Below.alloc2 ?_ _ | with_reducible refine Below.alloc ?_ (by first | omega | (simp <;> omega)) _ | with_reducible refine Below.setCell ?_ (by first | omega | (simp <;> omega)) _ | with_reducible refine Below.step2 (by with_reducible assumption) ?_ | with_reducible refine Below.step (by with_reducible assumption) ?_ (by first | omega | (simp <;> omega))))) hg4 (by have := HB.out.size; first | (simp; done) | (simp; omega) | omega) (fun q hq => (HOWN.out.lt q hq).1)); clear ho4 hg4))
          go_roundw
          case rel => exact ⟨k + 1, ⟨sde, sho, sfr, sop ++ [xn]⟩, by omega, by go_num, HN, rfl, rfl, rfl, HO4.out, HB4.out⟩
          case measure => simp [intOf]; omega
        · have HN : Hid (∀ R, (sop.filter fun z => decide (z ≠ xn)) = R → lwOf ((l.take (k + 1)).filter (ownE p day)) = ⟨sde, sho, sfr, R⟩) := Lib.hid (by rintro R rfl; rw [lw_yes HX.out HS0.out HW.out]; simp [lwF])
          obtain ⟨A5, cq, rfl⟩ := own_sl HOWN.out
          have hnu := Nums.own HOWN.out
          obtain ⟨m, hm⟩ : ∃ m, sop.length = m := ⟨_, rfl⟩
          have HML := Lib.hid hm
          rw [hm] at hol hnu ⊢
          have hcap5 := hnu.cap
          have hmax5 := hnu.max
          obtain ⟨wo, rfl⟩ : ∃ x, x = wr := ⟨_, rfl⟩
          go_wp2
          obtain ⟨w9, hw9⟩ : ∃ x, x = wo.alloc (.cells #[.int .i64 xd, .int .i64 5, .string xp, .int .i64 xn, .bool xs, .bool xg] 24) := ⟨_, rfl⟩
          rw [← hw9]
          have HK9 : Hid (Bk w9 wo.heap.size 24 #[.int .i64 xd, .int .i64 5, .string xp, .int .i64 xn, .bool xs, .bool xg]) := Lib.hid (by rw [hw9]; exact Bk.at_ rfl)
          have HB9 : Hid (Below w3.heap.size w3 w9) := Lib.hid (by rw [hw9]; exact HB.out.alloc HB.out.size _)
          have os9 : w9.heap.size = wo.heap.size + 1 := by rw [hw9]; simp
          have HNU : Hid (Nums w9 w9.heap.size A5 m cq sop) := Lib.hid (by rw [hw9]; exact hnu.below ((Below.refl _ wo).alloc (Nat.le_refl _) _) (Nat.le_refl _) (by simp))
          clear hw9 hnu hm c0 c1 c2 c3 c4 c5
          go_loopw [15, 16] (fun rest q wq => ∃ (j : Nat) (R : List Int), j ≤ m ∧ q = .int .i64 j ∧ Hid (((sop.take j).filter fun z => decide (z ≠ xn)) = R) ∧ wq.ownsRow w9.heap.size 3 1 rest R.length (i64s R) ∧ Below w9.heap.size w9 wq) (fun _ q _ => m - (intOf q).toNat)
          case atStart => exact ⟨0, [], Nat.zero_le _, rfl, Lib.hid rfl, World.ownsRow_nil _ _ _ _, Below.refl _ _⟩
          case round =>
            obtain ⟨wq, rfl⟩ : ∃ x, x = wr := ⟨_, rfl⟩
            obtain ⟨j, R, hj, rfl, HF, hown2, hb2⟩ := hrel
            have HB2 := Lib.hid hb2
            have HO2 := Lib.hid hown2
            have ow2 := hb2.size
            have HK2 := Lib.hid (HK9.out.below hb2 (by omega))
            obtain ⟨q0, q1, q2, q3, q4, q5⟩ := HK2.out.sixc
            have hrl : R.length ≤ 1000 := by
              have h1 := List.length_filter_le (fun z => decide (z ≠ xn)) (sop.take j)
              rw [HF.out, List.length_take] at h1
              omega
            clear hown2
            by_cases hlt2 : j < m
            · obtain ⟨b2, o2, z, rfl, hbb2, hz, hc⟩ := (HNU.out.below hb2 (Nat.le_refl _) hb2.size).at_ hlt2
              have HT := Lib.hid (flt_step hz HF.out)
              have z1 : (0 : Int) ≤ (j : Int) := by omega
              have z2 : (j : Int) < (m : Int) := by omega
              clear hz hb2
              by_cases hd : z = xn
              · have HN2 : Hid (((sop.take (j + 1)).filter fun z => decide (z ≠ xn)) = R) := Lib.hid (HT.out.trans (by rw [if_pos hd, List.append_nil]))
                subst hd
                clear HT
                go_wp2
                go_quiet (fail)
                go_wp2
                go_roundw
                case rel => exact ⟨j + 1, R, by omega, by go_num, HN2, own_step HO2.out (by exact (by repeat (first | with_reducible exact Below.refl _ _ | with_reducible assumption | with_reducible refine Below.drew ?_ | with_reducible refine Below.drewN ?_ _ | with_reducible refine Below.alloc2 ?_ _ | with_reducible refine Below.alloc ?_ (by first | omega | (simp <;> omega)) _ | with_reducible refine Below.setCell ?_ (by first | omega | (simp <;> omega)) _ | with_reducible refine Below.step2 (by with_reducible assumption) ?_ | with_reducible refine Below.step (by with_reducible assumption) ?_ (by first | omega | (simp <;> omega))))), (by have hb0 := HB2.out; exact (by repeat (first | with_reducible exact Below.refl _ _ | with_reducible assumption | with_reducible refine Below.drew ?_ | with_reducible refine Below.drewN ?_ _ | with_reducible refine Below.alloc2 ?_ _ | with_reducible refine Below.alloc ?_ (by first | omega | (simp <;> omega)) _ | with_reducible refine Below.setCell ?_ (by first | omega | (simp <;> omega)) _ | with_reducible refine Below.step2 (by with_reducible assumption) ?_ | with_reducible refine Below.step (by with_reducible assumption) ?_ (by first | omega | (simp <;> omega)))))⟩
                case measure => simp [intOf]; omega
              · have HN2 : Hid (((sop.take (j + 1)).filter fun z => decide (z ≠ xn)) = R ++ [z]) := Lib.hid (HT.out.trans (by rw [if_neg hd]))
                have hdb : (z != xn) = true := by simpa using hd
                clear HT hd
                go_wp2
                go_quiet (fail)
                go_wp2_with (at_builtin; go_loud (refine app_i (W := R) (base := w9.heap.size) (vw := u15) ?_ rfl _ _ rfl rfl z _ rfl ?_ (by omega) ?_ ?_; (exact own_step HO2.out (by exact (by repeat (first | with_reducible exact Below.refl _ _ | with_reducible assumption | with_reducible refine Below.drew ?_ | with_reducible refine Below.drewN ?_ _ | with_reducible refine Below.alloc2 ?_ _ | with_reducible refine Below.alloc ?_ (by first | omega | (simp <;> omega)) _ | with_reducible refine Below.setCell ?_ (by first | omega | (simp <;> omega)) _ | with_reducible refine Below.step2 (by with_reducible assumption) ?_ | with_reducible refine Below.step (by with_reducible assumption) ?_ (by first | omega | (simp <;> omega)))))); (focus (exact (by repeat (first | with_reducible assumption | with_reducible exact Bk.at_ (by first | (simp; done) | omega) | with_reducible refine Bk.alloc ?_ _ | with_reducible refine Bk.drew ?_ | with_reducible refine Bk.drewN ?_ _ | with_reducible refine Bk.step (by with_reducible assumption) ?_ (by first | omega | (simp <;> omega)))))); (focus (have := HB2.out.size; first | (simp; done) | (simp; omega) | omega)); intro v6 w6 ho6 hg6; have HO6 := Lib.hid ho6; have HB6 : Hid (Below w9.heap.size w9 w6) := Lib.hid (Below.grown_ (by have hb0 := HB2.out; exact (by repeat (first | with_reducible exact Below.refl _ _ | with_reducible assumption | with_reducible refine Below.drew ?_ | with_reducible refine Below.drewN ?_ _ | with_reducible refine Below.alloc2 ?_ _ | with_reducible refine Below.alloc ?_ (by first | omega | (simp <;> omega)) _ | with_reducible refine Below.setCell ?_ (by first | omega | (simp <;> omega)) _ | with_reducible refine Below.step2 (by with_reducible assumption) ?_ | with_reducible refine Below.step (by with_reducible assumption) ?_ (by first | omega | (simp <;> omega))))) hg6 (by have := HB2.out.size; first | (simp; done) | (simp; omega) | omega) (fun q hq => (HO2.out.lt q hq).1)); clear ho6 hg6))
                go_roundw
                case rel => exact ⟨j + 1, R ++ [z], by omega, by go_num, HN2, HO6.out, HB6.out⟩
                case measure => simp [intOf]; omega
            · obtain rfl : j = m := by omega
              have HN2 := Lib.hid (HN.out R (by have := HF.out; rwa [List.take_of_length_le (by rw [HML.out]; omega)] at this))
              clear hb2
              go_wp2
              go_roundw
              case rel => exact ⟨k + 1, ⟨sde, sho, sfr, R⟩, by omega, by go_num, HN2, rfl, rfl, rfl, own_base HO2.out HB9.out.size, bel2 HB9.out HB2.out⟩
              case measure => simp [intOf]; omega
        · (have HN : Hid (lwOf ((l.take (k + 1)).filter (ownE p day)) = ⟨false, sho, sfr, sop⟩) := Lib.hid (by rw [lw_yes HX.out HS0.out HW.out]; simp [lwF])
           go_wp2
           go_roundw
           case rel => exact ⟨k + 1, ⟨false, sho, sfr, sop⟩, by omega, by go_num, HN, rfl, rfl, rfl, own_step HOWN.out (by exact (by repeat (first | with_reducible exact Below.refl _ _ | with_reducible assumption | with_reducible refine Below.drew ?_ | with_reducible refine Below.drewN ?_ _ | with_reducible refine Below.alloc2 ?_ _ | with_reducible refine Below.alloc ?_ (by first | omega | (simp <;> omega)) _ | with_reducible refine Below.setCell ?_ (by first | omega | (simp <;> omega)) _ | with_reducible refine Below.step2 (by with_reducible assumption) ?_ | with_reducible refine Below.step (by with_reducible assumption) ?_ (by first | omega | (simp <;> omega))))), (by have hb0 := HB.out; exact (by repeat (first | with_reducible exact Below.refl _ _ | with_reducible assumption | with_reducible refine Below.drew ?_ | with_reducible refine Below.drewN ?_ _ | with_reducible refine Below.alloc2 ?_ _ | with_reducible refine Below.alloc ?_ (by first | omega | (simp <;> omega)) _ | with_reducible refine Below.setCell ?_ (by first | omega | (simp <;> omega)) _ | with_reducible refine Below.step2 (by with_reducible assumption) ?_ | with_reducible refine Below.step (by with_reducible assumption) ?_ (by first | omega | (simp <;> omega)))))⟩
           case measure => simp [intOf]; omega)
    · obtain rfl : k = n := by omega
      rw [List.take_of_length_le (by rw [HLEN.out]; omega)] at HS0
      have hgl := GL.out
      have hfr := HFR.out
      rw [HS0.out] at hgl hfr
      dsimp only at hgl hfr
      obtain ⟨rfl, rfl, g1, g2, rfl⟩ := hgl
      obtain ⟨A5, cq, rfl⟩ := own_sl HOWN.out
      have hd := HDAY
      have hw1 : IntKind.i64.wrap (day - sfr) = day - sfr := IntWalk.i64_in _ (by omega)
      have e1 : decide (sfr ≥ 0) = true := decide_eq_true (by omega)
      have e2 : decide (day - sfr ≤ 7) = true := decide_eq_true g2
      clear hfr
      go_wp2
      go_ret
      exact ⟨HBW.out, rfl⟩

/-- The law, for every record, platform and day. -/
theorem lawRel_any (A : Option Addr) (n c : Nat) (l : List Ev) (p : ByteArray) (day : Int) (w : World) (h : Rws Ev.cs 6 w w.heap.size A n c l) (ho : ∀ x ∈ l, evOk x) :
    Calls Try.prog 7 #[.slice A n c, .string p, .int .i64 day] w fun e w' => Below w.heap.size w w' ∧ e = .returned (.bool true) := by
  by_cases hl : shB l = true
  · by_cases hp : p.size ≤ 30
    · by_cases hq : qErr l p day = 0 ∧ tagR (reasonsR (l.filter (upF day)) p day) = 2
      · exact lawRel_green A n c l p day w h hl hp ho hq.1 hq.2
      · exact lawRel_not A n c l p day w h hl hp ho hq
    · exact lawRel_long A n c l p day w h (.inr (by omega))
  · exact lawRel_long A n c l p day w h (.inl (by simpa using hl))

end Go.Proofs.Ytgjjjnofdjhikaa
