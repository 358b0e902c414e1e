/- Chapter 9, walks: Platforms, Add. -/
import Derived.Test.YtgjjjnofdjhikaaConc9
import Derived.Test.YtgjjjnofdjhikaaPlat9
import Derived.Test.YtgjjjnofdjhikaaRefRec9
import Derived.Test.YtgjjjnofdjhikaaRefPlat9
namespace Go.Proofs.Ytgjjjnofdjhikaa
open Go.RowKit Go.WideShapes

theorem eE_plat {seen : List Ev} {x : Ev} (h : eE seen x = 0) : platB x.k x.p = true := by
  unfold eE eEr at h
  cases h1 : platB x.k x.p
  · exfalso
    simp only [h1, Bool.false_eq_true, if_false] at h
    split at h
    · split at h <;> cases h
    · cases h
  · rfl
theorem rGo_plat : ∀ {l seen : List Ev}, rGo seen l = 0 → ∀ x ∈ l, platB x.k x.p = true
  | y :: r, seen, h, x, hx => by
    rw [rGo] at h
    split at h
    · rename_i h0
      rcases List.mem_cons.1 hx with rfl | hx
      · exact eE_plat h0
      · exact rGo_plat h x hx
    · contradiction
theorem rec_plat {l : List Ev} (h : recErr l = 0) : ∀ x ∈ l, platB x.k x.p = true := by
  unfold recErr at h
  split at h
  · cases h
  · exact rGo_plat h
theorem size_nil {p : ByteArray} (h : p.size = 0) : p.data.toList = [] := by
  have e : p.data.size = 0 := h
  exact List.eq_nil_of_length_eq_zero (by simpa using e)
/-- The platforms of a record, on both ways. -/
theorem plats_same {l : List Ev} (h : recErr l = 0) : platsP l = platsR l := by
  have hp := rec_plat h
  obtain ⟨a1, a2⟩ := compact_ok (plL l)
  obtain ⟨b1, b2⟩ := foldR_ok (l.map fun x => x.p.data.toList) [] List.Pairwise.nil
  refine asc_unique a1 b1 fun p => ?_
  refine (a2 p).trans (Iff.trans ?_ (b2 p).symm)
  simp only [plL, List.mem_map, List.mem_filter, List.not_mem_nil, false_or]
  constructor
  · rintro ⟨x, ⟨hx, hk⟩, rfl⟩
    refine ⟨⟨x, hx, rfl⟩, fun e => ?_⟩
    have hq := hp x hx
    have hk3 : x.k ≠ 3 := by simpa [notStorm] using hk
    unfold platB at hq
    rw [if_neg hk3] at hq
    have he := nameB_full hq
    have hs : x.p.size = 0 := by
      show x.p.data.size = 0
      rw [← Array.length_toList, e]; rfl
    rw [emptyS_size.2 hs] at he
    cases he
  · rintro ⟨⟨x, hx, rfl⟩, h0⟩
    refine ⟨x, ⟨hx, ?_⟩, rfl⟩
    have hq := hp x hx
    by_cases hk : x.k = 3
    · exfalso
      unfold platB at hq
      rw [if_pos hk] at hq
      exact h0 (size_nil (emptyS_size.1 hq))
    · simpa [notStorm] using hk

theorem platforms_bad (A : Option Addr) (n c : Nat) (l : List Ev) (w : World) (h : Rws Ev.cs 6 w w.heap.size A n c l) (hs : n ≤ 400 → ∀ x ∈ l, x.p.size ≤ 30) (ho : ∀ x ∈ l, evOk x) (E : Int) (hE : recErr l = E) (h0 : E ≠ 0) :
    Calls Try.prog 12 #[.slice A n c] w fun e w' => Below w.heap.size w w' ∧ e = .returned (.tuple #[.slice none 0 0, .int .i64 E]) := by
  have CR : Hid (Calls Try.prog 15 #[.slice A n c] w fun e w' => Below w.heap.size w w' ∧ e = .returned (.int .i64 E)) := Lib.hid (by have := checkRec_all A n c l w h hs ho; rwa [hE] at this)
  have h0b : (E != 0) = true := by simpa using h0
  clear h hs ho hE h0
  go_enter Try.func12, Try.ntmps12
  go_wp2_with (go_at_call 15; refine CR.out.mono ?_; rintro e w1 ⟨hb1, rfl⟩; have HB1 := Lib.hid hb1; clear hb1)
  go_ret2
  exact ⟨HB1.out, rfl⟩
theorem platforms_ok (A : Option Addr) (n c : Nat) (l : List Ev) (w : World) (h : Rws Ev.cs 6 w w.heap.size A n c l) (hs : ∀ x ∈ l, x.p.size ≤ 30) (ho : ∀ x ∈ l, evOk x) (hE : recErr l = 0) :
    Calls Try.prog 12 #[.slice A n c] w fun e w' => Below w.heap.size w w' ∧ ∃ v, e = .returned (.tuple #[v, .int .i64 0]) ∧ w'.ownsRow w.heap.size 9 1 v (platsR l).length (Ss (platsR l)) := by
  have hn := recErr_small hE
  rw [h.len] at hn
  have CR : Hid (Calls Try.prog 15 #[.slice A n c] w fun e w' => Below w.heap.size w w' ∧ e = .returned (.int .i64 0)) := Lib.hid (by have := checkRec_all A n c l w h (fun _ => hs) ho; rwa [hE] at this)
  have PL : Hid (∀ W, Below w.heap.size w W → Calls Try.prog 42 #[.slice A n c] W fun e w' => Below W.heap.size W w' ∧ ∃ v, e = .returned v ∧ w'.ownsRow W.heap.size 9 1 v (platsR l).length (Ss (platsR l))) := Lib.hid fun W hW => by
    have := platformsOf_any A n c l W (h.below hW (Nat.le_refl _) hW.size) (by omega)
    rwa [plats_same hE] at this
  generalize platsR l = R at PL ⊢
  clear h hs ho hE
  go_enter Try.func12, Try.ntmps12
  go_wp2_with (first
    | (go_at_call 15; refine CR.out.mono ?_; rintro e w1 ⟨hb1, rfl⟩; have HB1 := Lib.hid hb1; clear hb1)
    | (go_at_call 42; refine (PL.out _ HB1.out).mono ?_; rintro e w2 ⟨hb2, v, rfl, hown⟩; have HB2 : Hid (Below w.heap.size w w2) := Lib.hid (HB1.out.trans (hb2.mono HB1.out.size)); have HO := Lib.hid (own_base hown HB1.out.size); clear hb2 hown))
  go_ret2
  exact ⟨HB2.out, _, rfl, HO.out⟩
set_option maxRecDepth 100000 in
set_option maxHeartbeats 8000000 in
theorem add_bad (A : Option Addr) (n c : Nat) (l : List Ev) (xd xk xn : Int) (xp : ByteArray) (xs xg : Bool) (w : World) (h : Rws Ev.cs 6 w w.heap.size A n c l) (hs : n ≤ 400 → ∀ x ∈ l, x.p.size ≤ 30) (ho : ∀ x ∈ l, evOk x) (E : Int) (hE : recErr l = E) (h0 : E ≠ 0) :
    Calls Try.prog 14 #[.slice A n c, .agg #[.int .i64 xd, .int .i64 xk, .string xp, .int .i64 xn, .bool xs, .bool xg]] w fun e w' => Below w.heap.size w w' ∧ e = .returned (.tuple #[.slice none 0 0, .int .i64 E]) := by
  have CR : Hid (∀ W, Below w.heap.size w W → Calls Try.prog 15 #[.slice A n c] W fun e w' => Below W.heap.size W w' ∧ e = .returned (.int .i64 E)) := Lib.hid fun W hW => by
    have := checkRec_all A n c l W (h.below hW (Nat.le_refl _) hW.size) hs ho
    rwa [hE] at this
  have h0b : (E != 0) = true := by simpa using h0
  clear h hs ho hE h0
  go_enter Try.func14, Try.ntmps14
  go_wp2_with (go_at_call 15; refine (CR.out _ (by exact (by repeat (first | with_reducible exact Below.refl _ _ | with_reducible assumption | with_reducible refine Below.drew ?_ | with_reducible refine Below.drewN ?_ _ | with_reducible refine Below.alloc2 ?_ _ | with_reducible refine Below.alloc ?_ (by first | omega | (simp <;> omega)) _ | with_reducible refine Below.setCell ?_ (by first | omega | (simp <;> omega)) _ | with_reducible refine Below.step2 (by with_reducible assumption) ?_ | with_reducible refine Below.step (by with_reducible assumption) ?_ (by first | omega | (simp <;> omega)))))).mono ?_; rintro e w1 ⟨hb1, rfl⟩; have hk1 : Bk w1 w.heap.size 24 #[.int .i64 xd, .int .i64 xk, .string xp, .int .i64 xn, .bool xs, .bool xg] := (by refine Bk.below (D := _) ?_ hb1 (by simp); exact (by repeat (first | with_reducible assumption | with_reducible exact Bk.at_ (by first | (simp; done) | omega) | with_reducible refine Bk.alloc ?_ _ | with_reducible refine Bk.drew ?_ | with_reducible refine Bk.drewN ?_ _ | with_reducible refine Bk.step (by with_reducible assumption) ?_ (by first | omega | (simp <;> omega))))); have hbw : Below w.heap.size w w1 := ((Below.refl _ w).alloc (Nat.le_refl _) _).trans (hb1.mono (by simp)); have HB1 := Lib.hid hbw; have HK1 := Lib.hid hk1; have ol1 := hk1.lt; obtain ⟨q0, q1, q2, q3, q4, q5⟩ := hk1.sixc; clear hk1 hb1 hbw)
  go_ret2
  exact ⟨HB1.out, rfl⟩
set_option maxRecDepth 100000 in
set_option maxHeartbeats 8000000 in
theorem add_ok (A : Option Addr) (n c : Nat) (l : List Ev) (xd xk xn : Int) (xp : ByteArray) (xs xg : Bool) (w : World) (h : Rws Ev.cs 6 w w.heap.size A n c l) (hs : ∀ x ∈ l, x.p.size ≤ 30) (ho : ∀ x ∈ l, evOk x) (hE : recErr l = 0) (hp : xp.size ≤ 30) (hx : evOk (⟨xd, xk, xp, xn, xs, xg⟩ : Ev)) (E : Int) (hE2 : recErr (l ++ [(⟨xd, xk, xp, xn, xs, xg⟩ : Ev)]) = E) :
    Calls Try.prog 14 #[.slice A n c, .agg #[.int .i64 xd, .int .i64 xk, .string xp, .int .i64 xn, .bool xs, .bool xg]] w fun e w' => Below w.heap.size w w' ∧ ∃ A' c', e = .returned (.tuple #[if E = 0 then .slice A' (n + 1) c' else .slice none 0 0, .int .i64 E]) ∧ Rws Ev.cs 6 w' w'.heap.size A' (n + 1) c' (l ++ [(⟨xd, xk, xp, xn, xs, xg⟩ : Ev)]) := by
  have hn := recErr_small hE
  have hlen := h.len
  rw [hlen] at hn
  have hcap := h.cap
  have hmax := h.max
  have CR : Hid (∀ W, Below w.heap.size w W → Calls Try.prog 15 #[.slice A n c] W fun e w' => Below W.heap.size W w' ∧ e = .returned (.int .i64 0)) := Lib.hid fun W hW => by
    have := checkRec_all A n c l W (h.below hW (Nat.le_refl _) hW.size) (fun _ => hs) ho
    rwa [hE] at this
  have CC : Hid (∀ W g gx m t, Below w.heap.size w W → Bk W g t #[.slice A n c, .slice (some ⟨gx, 0, none⟩) 1 1] → Bk W gx 24 #[.int .i64 xd, .int .i64 xk, .string xp, .int .i64 xn, .bool xs, .bool xg] → Calls Try.prog 44 #[.slice (some ⟨g, 0, none⟩) 2 m] W fun e w' => Below W.heap.size W w' ∧ ∃ v, e = .returned v ∧ w'.ownsRow W.heap.size 24 6 v (n + 1) ((l ++ [(⟨xd, xk, xp, xn, xs, xg⟩ : Ev)]).flatMap Ev.cs)) := Lib.hid fun W g gx m t hW h1 h2 =>
    concat_any A n c g gx m l (⟨xd, xk, xp, xn, xs, xg⟩ : Ev) t W (h.below hW (Nat.le_refl _) hW.size) (by omega) h1 h2
  obtain ⟨V, hV⟩ : ∃ V : Value → Value, V = fun v => if E = 0 then v else .slice none 0 0 := ⟨_, rfl⟩
  suffices KEY : Calls Try.prog 14 #[.slice A n c, .agg #[.int .i64 xd, .int .i64 xk, .string xp, .int .i64 xn, .bool xs, .bool xg]] w (fun e w' => Below w.heap.size w w' ∧ ∃ A' c', e = .returned (.tuple #[V (.slice A' (n + 1) c'), .int .i64 E]) ∧ Rws Ev.cs 6 w' w'.heap.size A' (n + 1) c' (l ++ [(⟨xd, xk, xp, xn, xs, xg⟩ : Ev)])) by
    refine KEY.mono ?_
    rintro e w1 ⟨hb, A', c', rfl, hr⟩
    exact ⟨hb, _, _, by rw [hV], hr⟩
  have AC : Hid (∀ A' c' W, Rws Ev.cs 6 W W.heap.size A' (n + 1) c' (l ++ [(⟨xd, xk, xp, xn, xs, xg⟩ : Ev)]) → Calls Try.prog 43 #[.slice A' (n + 1) c'] W fun e w' => Below W.heap.size W w' ∧ e = .returned (.tuple #[V (.slice A' (n + 1) c'), .int .i64 E])) := Lib.hid fun A' c' W hW => by
    rw [hV]
    exact accepted_any _ (n + 1) _ _ W hW (fun _ y hy => by
      rcases List.mem_append.1 hy with h1 | h1
      · exact hs y h1
      · rw [List.mem_singleton.1 h1]; exact hp) (fun y hy => by
      rcases List.mem_append.1 hy with h1 | h1
      · exact ho y h1
      · rw [List.mem_singleton.1 h1]; exact hx) E hE2
  have HLEN : Hid ((l ++ [(⟨xd, xk, xp, xn, xs, xg⟩ : Ev)]).length = n + 1) := Lib.hid (by simp [hlen])
  generalize l ++ [(⟨xd, xk, xp, xn, xs, xg⟩ : Ev)] = L at CC AC HLEN ⊢
  clear h hs ho hE hlen hE2 hx hp hV
  go_enter Try.func14, Try.ntmps14
  go_wp2_with (first
    | (go_at_call 15; refine (CR.out _ (by exact (by repeat (first | with_reducible exact Below.refl _ _ | with_reducible assumption | with_reducible refine Below.drew ?_ | with_reducible refine Below.drewN ?_ _ | with_reducible refine Below.alloc2 ?_ _ | with_reducible refine Below.alloc ?_ (by first | omega | (simp <;> omega)) _ | with_reducible refine Below.setCell ?_ (by first | omega | (simp <;> omega)) _ | with_reducible refine Below.step2 (by with_reducible assumption) ?_ | with_reducible refine Below.step (by with_reducible assumption) ?_ (by first | omega | (simp <;> omega)))))).mono ?_; rintro e w1 ⟨hb1, rfl⟩; have hk1 : Bk w1 w.heap.size 24 #[.int .i64 xd, .int .i64 xk, .string xp, .int .i64 xn, .bool xs, .bool xg] := (by refine Bk.below (D := _) ?_ hb1 (by simp); exact (by repeat (first | with_reducible assumption | with_reducible exact Bk.at_ (by first | (simp; done) | omega) | with_reducible refine Bk.alloc ?_ _ | with_reducible refine Bk.drew ?_ | with_reducible refine Bk.drewN ?_ _ | with_reducible refine Bk.step (by with_reducible assumption) ?_ (by first | omega | (simp <;> omega))))); have hbw : Below w.heap.size w w1 := ((Below.refl _ w).alloc (Nat.le_refl _) _).trans (hb1.mono (by simp)); have HB1 := Lib.hid hbw; have HK1 := Lib.hid hk1; have ol1 := hk1.lt; obtain ⟨q0, q1, q2, q3, q4, q5⟩ := hk1.sixc; clear hk1 hb1 hbw)
    | (go_at_call 44; refine (CC.out _ _ _ _ _ (by have hb0 := HB1.out; exact (by repeat (first | with_reducible exact Below.refl _ _ | with_reducible assumption | with_reducible refine Below.drew ?_ | with_reducible refine Below.drewN ?_ _ | with_reducible refine Below.alloc2 ?_ _ | with_reducible refine Below.alloc ?_ (by first | omega | (simp <;> omega)) _ | with_reducible refine Below.setCell ?_ (by first | omega | (simp <;> omega)) _ | with_reducible refine Below.step2 (by with_reducible assumption) ?_ | with_reducible refine Below.step (by with_reducible assumption) ?_ (by first | omega | (simp <;> omega))))) (by exact (by repeat (first | with_reducible assumption | with_reducible exact Bk.at_ (by first | (simp; done) | omega) | with_reducible refine Bk.alloc ?_ _ | with_reducible refine Bk.drew ?_ | with_reducible refine Bk.drewN ?_ _ | with_reducible refine Bk.step (by with_reducible assumption) ?_ (by first | omega | (simp <;> omega))))) (by exact (by repeat (first | with_reducible assumption | with_reducible exact Bk.at_ (by first | (simp; done) | omega) | with_reducible refine Bk.alloc ?_ _ | with_reducible refine Bk.drew ?_ | with_reducible refine Bk.drewN ?_ _ | with_reducible refine Bk.step (by with_reducible assumption) ?_ (by first | omega | (simp <;> omega)))))).mono ?_; rintro e w2 ⟨hb2, v, rfl, hown⟩; have HB2 : Hid (Below w.heap.size w w2) := Lib.hid (by have hb0 := HB1.out; refine Below.trans ?_ (hb2.mono ?_); (exact (by repeat (first | with_reducible exact Below.refl _ _ | with_reducible assumption | with_reducible refine Below.drew ?_ | with_reducible refine Below.drewN ?_ _ | with_reducible refine Below.alloc2 ?_ _ | with_reducible refine Below.alloc ?_ (by first | omega | (simp <;> omega)) _ | with_reducible refine Below.setCell ?_ (by first | omega | (simp <;> omega)) _ | with_reducible refine Below.step2 (by with_reducible assumption) ?_ | with_reducible refine Below.step (by with_reducible assumption) ?_ (by first | omega | (simp <;> omega))))); (simp; omega)); obtain ⟨A1, c1, rfl, hr⟩ := Rws.of_own hown HLEN.out; have HR := Lib.hid hr; clear hown hr hb2)
    | (go_at_call 43; refine (AC.out _ _ _ HR.out).mono ?_; rintro e w3 ⟨hb3, rfl⟩; have HB3 := Lib.hid hb3; clear hb3))
  go_ret2
  exact ⟨HB2.out.trans (HB3.out.mono HB2.out.size), _, _, rfl, HR.out.below HB3.out (Nat.le_refl _) HB3.out.size⟩

end Go.Proofs.Ytgjjjnofdjhikaa
