/- Chapter 6, walks: Held. -/
import Derived.Test.YtgljncfijcamhaaGreatDoorDemandsB6
namespace Go.Proofs.YtgljncfijcamhaaGreatDoor
open Go.RowKit

/-- The first demand without a place. -/
def noPl (l : List Dem) : Option Dem := l.find? fun d => decide (d.pl.length = 0)
theorem noPl_at {l : List Dem} {k : Nat} {x : Dem} (hx : l[k]? = some x) (h : (l.take k).all (fun d => !decide (d.pl.length = 0)) = true) (hp : x.pl.length = 0) : noPl l = some x := by
  obtain ⟨hk, hx'⟩ := List.getElem?_eq_some_iff.1 hx
  have h1 : l = l.take k ++ x :: l.drop (k + 1) := by rw [← hx', ← List.drop_eq_getElem_cons hk, List.take_append_drop]
  unfold noPl
  rw [h1, List.find?_append, List.find?_eq_none.2, Option.none_or]
  · simp [List.find?, hp]
  · intro d hd
    have := List.all_eq_true.1 h d hd
    simpa using this
theorem noPl_none {l : List Dem} (h : l.all (fun d => !decide (d.pl.length = 0)) = true) : noPl l = none := by
  unfold noPl
  rw [List.find?_eq_none]
  intro d hd
  have := List.all_eq_true.1 h d hd
  simpa using this
theorem all_snocD {p : Dem → Bool} {l : List Dem} {k : Nat} {x : Dem} (hx : l[k]? = some x) (h : (l.take k).all p = true) (h2 : p x = true) : (l.take (k + 1)).all p = true := by
  obtain ⟨hk, rfl⟩ := List.getElem?_eq_some_iff.1 hx
  rw [List.take_succ_eq_append_getElem hk, List.all_append, h]
  simpa using h2
set_option maxHeartbeats 4000000 in
theorem held_bad (f : Int) (A A2 : Option Addr) (n c m c2 : Nat) (ev fr sk ma st : Int) (T : Option Addr) (k0 ct : Nat) (E : Int) (w : World) (hE : E ≠ 0)
    (cd : ∀ w', Below w.heap.size w w' → Calls Tryz.prog 10 #[.agg #[.int .i64 f, .slice A n c, .slice A2 m c2], .agg #[.int .i64 ev, .int .i64 fr, .int .i64 sk, .int .i64 ma, .int .i64 st], .slice T k0 ct] w' fun e w'' => Below w'.heap.size w' w'' ∧ e = .returned (.tuple #[.slice none 0 0, .int .i64 E])) :
    Calls Tryz.prog 11 #[.agg #[.int .i64 f, .slice A n c, .slice A2 m c2], .agg #[.int .i64 ev, .int .i64 fr, .int .i64 sk, .int .i64 ma, .int .i64 st], .slice T k0 ct] w fun e w' => Below w.heap.size w w' ∧ e = .returned (.tuple #[.bool false, .agg #[.int .i64 0, .int .i64 0, .slice none 0 0], .int .i64 E]) := by
  have CD := Lib.hid cd
  have heb : (E != 0) = true := by simpa using hE
  clear cd
  go_enter Tryz.func11, Tryz.ntmps11
  go_wp2_with (go_at_call 10; with_reducible refine (CD.out _ ?_).mono ?_; (focus (exact (by repeat (first | with_reducible exact Below.refl _ _ | with_reducible assumption | with_reducible refine Below.drew ?_ | with_reducible refine Below.drewN ?_ _ | with_reducible refine Below.alloc2 ?_ _ | with_reducible refine Below.alloc ?_ (by first | omega | (simp <;> omega)) _ | with_reducible refine Below.setCell ?_ (by first | omega | (simp <;> omega)) _ | with_reducible refine Below.step2 (by with_reducible assumption) ?_ | with_reducible refine Below.step (by with_reducible assumption) ?_ (by first | omega | (simp <;> omega)))))); rintro e w1 ⟨hb1, rfl⟩; have kd : Bk w1 (w.heap.size + 2) 35 #[.int .i64 0, .int .i64 0, .slice none 0 0] := (by repeat (first | with_reducible assumption | with_reducible exact Bk.at_ (by first | (simp; done) | omega) | with_reducible refine Bk.alloc ?_ _ | with_reducible refine Bk.drew ?_ | with_reducible refine Bk.drewN ?_ _ | with_reducible refine Bk.step (by with_reducible assumption) ?_ (by first | omega | (simp <;> omega)))); have od := kd.lt; have oz1 := hb1.size; (try simp at oz1); have HKD := Lib.hid kd; have fr0 := kd.frozen 0; have fr1 := kd.frozen 1; have fr2 := kd.frozen 2; obtain ⟨⟨e0, e1, e2⟩, -⟩ := kd.three)
  refine bodyPost_ret (v := .tuple #[.bool false, .agg #[.int .i64 0, .int .i64 0, .slice none 0 0], .int .i64 E]) (by simp [results, Tryz.results11, go_sem, e0, e1, e2]) rfl ?_
  exact ⟨(by repeat (first | with_reducible exact Below.refl _ _ | with_reducible assumption | with_reducible refine Below.drew ?_ | with_reducible refine Below.drewN ?_ _ | with_reducible refine Below.alloc2 ?_ _ | with_reducible refine Below.alloc ?_ (by first | omega | (simp <;> omega)) _ | with_reducible refine Below.setCell ?_ (by first | omega | (simp <;> omega)) _ | with_reducible refine Below.step2 (by with_reducible assumption) ?_ | with_reducible refine Below.step (by with_reducible assumption) ?_ (by first | omega | (simp <;> omega)))), rfl⟩

/-- A demand as a value. -/
def demV (d : Dem) (P : Option Addr) (pc : Nat) : Value := .agg #[.int .i64 d.st, .int .i64 d.fr, .slice P d.pl.length pc]
set_option maxRecDepth 100000 in
set_option maxHeartbeats 8000000 in
theorem held_ok (f : Int) (A A2 : Option Addr) (n c m c2 : Nat) (ev fr sk ma st : Int) (T : Option Addr) (k0 ct : Nat) (l : List Dem) (w : World)
    (cd : ∀ w', Below w.heap.size w w' → Calls Tryz.prog 10 #[.agg #[.int .i64 f, .slice A n c, .slice A2 m c2], .agg #[.int .i64 ev, .int .i64 fr, .int .i64 sk, .int .i64 ma, .int .i64 st], .slice T k0 ct] w' fun e w'' => Below w'.heap.size w' w'' ∧ ∃ A' c', e = .returned (.tuple #[.slice A' l.length c', .int .i64 0]) ∧ Dems w'' w''.heap.size A' l.length c' l) :
    Calls Tryz.prog 11 #[.agg #[.int .i64 f, .slice A n c, .slice A2 m c2], .agg #[.int .i64 ev, .int .i64 fr, .int .i64 sk, .int .i64 ma, .int .i64 st], .slice T k0 ct] w fun e w' => Below w.heap.size w w' ∧
      ((noPl l = none ∧ e = .returned (.tuple #[.bool true, .agg #[.int .i64 0, .int .i64 0, .slice none 0 0], .int .i64 0])) ∨ ∃ d P pc, noPl l = some d ∧ d.pl = [] ∧ e = .returned (.tuple #[.bool false, .agg #[.int .i64 d.st, .int .i64 d.fr, .slice P 0 pc], .int .i64 0]) ∧ Nums w' w'.heap.size P 0 pc []) := by
  have CD := Lib.hid cd
  obtain ⟨N, hN⟩ : ∃ N, l.length = N := ⟨_, rfl⟩
  rw [hN] at CD
  have HN := Lib.hid hN
  clear cd hN
  go_enter Tryz.func11, Tryz.ntmps11
  go_wp2_with (go_at_call 10; with_reducible refine (CD.out _ ?_).mono ?_; (focus (exact (by repeat (first | with_reducible exact Below.refl _ _ | with_reducible assumption | with_reducible refine Below.drew ?_ | with_reducible refine Below.drewN ?_ _ | with_reducible refine Below.alloc2 ?_ _ | with_reducible refine Below.alloc ?_ (by first | omega | (simp <;> omega)) _ | with_reducible refine Below.setCell ?_ (by first | omega | (simp <;> omega)) _ | with_reducible refine Below.step2 (by with_reducible assumption) ?_ | with_reducible refine Below.step (by with_reducible assumption) ?_ (by first | omega | (simp <;> omega)))))); rintro e wS ⟨hb1, A', c', rfl, hD⟩; have HDS := Lib.hid hD; have kd : Bk wS (w.heap.size + 2) 35 #[.int .i64 0, .int .i64 0, .slice none 0 0] := (by repeat (first | with_reducible assumption | with_reducible exact Bk.at_ (by first | (simp; done) | omega) | with_reducible refine Bk.alloc ?_ _ | with_reducible refine Bk.drew ?_ | with_reducible refine Bk.drewN ?_ _ | with_reducible refine Bk.step (by with_reducible assumption) ?_ (by first | omega | (simp <;> omega)))); have od := kd.lt; have oz1 := hb1.size; (try simp at oz1); have HKD := Lib.hid kd; have HBS : Hid (Below w.heap.size w wS) := Lib.hid (by exact (by repeat (first | with_reducible exact Below.refl _ _ | with_reducible assumption | with_reducible refine Below.drew ?_ | with_reducible refine Below.drewN ?_ _ | with_reducible refine Below.alloc2 ?_ _ | with_reducible refine Below.alloc ?_ (by first | omega | (simp <;> omega)) _ | with_reducible refine Below.setCell ?_ (by first | omega | (simp <;> omega)) _ | with_reducible refine Below.step2 (by with_reducible assumption) ?_ | with_reducible refine Below.step (by with_reducible assumption) ?_ (by first | omega | (simp <;> omega))))); clear kd hD)
  have hcapS := HDS.out.cap
  have hmaxS := HDS.out.max
  go_loopw [12, 26] (fun _ x wr => ∃ k : Nat, k ≤ N ∧ x = .int .i64 k ∧ Hid ((l.take k).all (fun d => !decide (d.pl.length = 0)) = true) ∧ Below wS.heap.size wS wr) (fun _ x _ => N - (intOf x).toNat)
  case atStart => exact ⟨0, Nat.zero_le _, rfl, Lib.hid rfl, Below.refl _ _⟩
  case round =>
    obtain ⟨k, hk, rfl, HALL, hb⟩ := hrel
    have HB := Lib.hid hb
    have ow := hb.size
    have hkd : Bk wr (w.heap.size + 2) 35 #[.int .i64 0, .int .i64 0, .slice none 0 0] := (hb.block _ od).trans HKD.out
    have HKR := Lib.hid hkd
    have okd : w.heap.size + 2 < wr.heap.size := by omega
    have okd2 : w.heap.size + 1 + 1 < wr.heap.size := by omega
    have fr0 := hkd.frozen 0
    have fr1 := hkd.frozen 1
    have fr2 := hkd.frozen 2
    obtain ⟨⟨e0, e1, e2⟩, -⟩ := hkd.three
    clear hkd
    by_cases hlt : k < N
    · obtain ⟨b, o, x, P, pc, rfl, hbb, hx, d0, d1, d2, hP⟩ := (HDS.out.below hb (Nat.le_refl _) hb.size).at_ hlt
      have HX := Lib.hid hx
      have HP := Lib.hid hP
      obtain ⟨q, hq⟩ : ∃ q, x.pl.length = q := ⟨_, rfl⟩
      rw [hq] at d2
      have HQ := Lib.hid hq
      clear hb hx hP hq
      by_cases h0 : q = 0
      · subst h0
        have HR := Lib.hid (noPl_at HX.out HALL.out HQ.out)
        go_wp2
        go_region
        go_wp2
        refine bodyPost_ret (v := .tuple #[.bool false, .agg #[.int .i64 x.st, .int .i64 x.fr, .slice P 0 pc], .int .i64 0]) (by simp [results, Tryz.results11, go_sem, e0, e1, e2, okd]) rfl ?_
        have hb0 := HBS.out.trans (HB.out.mono HBS.out.size)
        exact ⟨(by repeat (first | with_reducible exact Below.refl _ _ | with_reducible assumption | with_reducible refine Below.drew ?_ | with_reducible refine Below.drewN ?_ _ | with_reducible refine Below.alloc2 ?_ _ | with_reducible refine Below.alloc ?_ (by first | omega | (simp <;> omega)) _ | with_reducible refine Below.setCell ?_ (by first | omega | (simp <;> omega)) _ | with_reducible refine Below.step2 (by with_reducible assumption) ?_ | with_reducible refine Below.step (by with_reducible assumption) ?_ (by first | omega | (simp <;> omega)))), .inr ⟨x, P, pc, HR.out, List.eq_nil_of_length_eq_zero HQ.out, rfl, ⟨⟨rfl, Nat.zero_le _, HP.out.max, fun h => absurd h (by omega)⟩⟩⟩⟩
      · have hq1 : ((q : Int) == 0) = false := by simp; omega
        have hq2 : (q == 0) = false := by simpa using h0
        have HE := Lib.hid (all_snocD HX.out HALL.out (by simp [HQ.out, h0]))
        go_wp2
        go_roundw
        case rel =>
          have hb0 := HB.out
          exact ⟨k + 1, by omega, by go_num, HE, (by repeat (first | with_reducible exact Below.refl _ _ | with_reducible assumption | with_reducible refine Below.drew ?_ | with_reducible refine Below.drewN ?_ _ | with_reducible refine Below.alloc2 ?_ _ | with_reducible refine Below.alloc ?_ (by first | omega | (simp <;> omega)) _ | with_reducible refine Below.setCell ?_ (by first | omega | (simp <;> omega)) _ | with_reducible refine Below.step2 (by with_reducible assumption) ?_ | with_reducible refine Below.step (by with_reducible assumption) ?_ (by first | omega | (simp <;> omega))))⟩
        case measure => (simp [intOf]; omega)
    · obtain rfl : k = N := by omega
      have HR : Hid (noPl l = none) := Lib.hid (noPl_none (by have := HALL.out; rwa [List.take_of_length_le (by rw [HN.out]; exact Nat.le_refl _)] at this))
      clear hb
      go_wp2
      refine bodyPost_ret (v := .tuple #[.bool true, .agg #[.int .i64 0, .int .i64 0, .slice none 0 0], .int .i64 0]) (by simp [results, Tryz.results11, go_sem, e0, e1, e2]) rfl ?_
      have hb0 := HBS.out.trans (HB.out.mono HBS.out.size)
      exact ⟨(by repeat (first | with_reducible exact Below.refl _ _ | with_reducible assumption | with_reducible refine Below.drew ?_ | with_reducible refine Below.drewN ?_ _ | with_reducible refine Below.alloc2 ?_ _ | with_reducible refine Below.alloc ?_ (by first | omega | (simp <;> omega)) _ | with_reducible refine Below.setCell ?_ (by first | omega | (simp <;> omega)) _ | with_reducible refine Below.step2 (by with_reducible assumption) ?_ | with_reducible refine Below.step (by with_reducible assumption) ?_ (by first | omega | (simp <;> omega)))), .inl ⟨HR.out, rfl⟩⟩

end Go.Proofs.YtgljncfijcamhaaGreatDoor
