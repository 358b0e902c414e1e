/- Chapter 6, walks: the error of ties. -/
import Derived.Test.YtgljncfijcamhaaGreatDoorTies6
namespace Go.Proofs.YtgljncfijcamhaaGreatDoor
open Go.RowKit

def tieIn (n m : Nat) (t : Int × Int) : Bool := inR 0 ((n : Int) - 1) t.1 && inR 0 ((m : Int) - 1) t.2
def tiesErr (n m : Nat) (l : List (Int × Int)) : Int := if 1800 < l.length then 8 else if l.any (fun t => !tieIn n m t) then 6 else if ascT l then 0 else 10
set_option maxHeartbeats 2000000 in
theorem tieOut_any (f : Int) (A A2 : Option Addr) (n c m c2 g : Nat) (x y : Int) (w : World) (hg : Bk w g 24 #[.int .i64 f, .slice A n c, .slice A2 m c2]) (hn : n ≤ c) (hc : c ≤ 9223372036854775807) (hm : m ≤ c2) (hc2 : c2 ≤ 9223372036854775807) :
    Calls Tryz.prog 82 #[.agg #[.int .i64 x, .int .i64 y], .pointer (some ⟨g, 0, none⟩)] w fun e w' => Below w.heap.size w w' ∧ e = .returned (.bool (!tieIn n m (x, y))) := by
  obtain ⟨b1, e1⟩ : ∃ v, inR 0 ((n : Int) - 1) x = v := ⟨_, rfl⟩
  obtain ⟨b2, e2⟩ : ∃ v, inR 0 ((m : Int) - 1) y = v := ⟨_, rfl⟩
  have E1 := Lib.hid e1
  have E2 := Lib.hid e2
  have hw1 : IntKind.i64.wrap ((n : Int) - 1) = (n : Int) - 1 := IntWalk.i64_in _ (by omega)
  have hw2 : IntKind.i64.wrap ((m : Int) - 1) = (m : Int) - 1 := IntWalk.i64_in _ (by omega)
  have og := hg.lt
  obtain ⟨⟨r0, r1, r2⟩, -⟩ := hg.three
  clear e1 e2
  cases b1
  · go_enter Tryz.func82, Tryz.ntmps82
    go_wp2_with (first
        | (go_at_call 56; with_reducible refine (areFrom_one 0 ((n : Int) - 1) x _ _ ?_ ?_ _ E1.out).mono ?_; (focus (simp; done)); (focus (simp; done)); rintro e w1 ⟨hb1, rfl⟩; have hbk1 : Bk w1 w.heap.size 91 #[.int .i64 x, .int .i64 y] := (by repeat (first | with_reducible assumption | with_reducible exact Bk.at_ (by first | (simp; done) | omega) | with_reducible refine Bk.alloc ?_ _ | with_reducible refine Bk.drew ?_ | with_reducible refine Bk.drewN ?_ _ | with_reducible refine Bk.step (by with_reducible assumption) ?_ (by first | omega | (simp <;> omega)))); have hbg1 : Bk w1 g 24 #[.int .i64 f, .slice A n c, .slice A2 m c2] := (by repeat (first | with_reducible assumption | with_reducible exact Bk.at_ (by first | (simp; done) | omega) | with_reducible refine Bk.alloc ?_ _ | with_reducible refine Bk.drew ?_ | with_reducible refine Bk.drewN ?_ _ | with_reducible refine Bk.step (by with_reducible assumption) ?_ (by first | omega | (simp <;> omega)))); have q0 := hbk1.cell 0; have q1 := hbk1.cell 1; (try simp at q0); (try simp at q1); obtain ⟨⟨r0, r1, r2⟩, -⟩ := hbg1.three; have oz1 := hb1.size; (try simp at oz1))
        | (go_at_call 56; with_reducible refine (areFrom_one 0 ((m : Int) - 1) y _ _ ?_ ?_ _ E2.out).mono ?_; (focus (simp; done)); (focus (simp; done)); rintro e w1 ⟨hb1, rfl⟩; have hbk1 : Bk w1 w.heap.size 91 #[.int .i64 x, .int .i64 y] := (by repeat (first | with_reducible assumption | with_reducible exact Bk.at_ (by first | (simp; done) | omega) | with_reducible refine Bk.alloc ?_ _ | with_reducible refine Bk.drew ?_ | with_reducible refine Bk.drewN ?_ _ | with_reducible refine Bk.step (by with_reducible assumption) ?_ (by first | omega | (simp <;> omega)))); have hbg1 : Bk w1 g 24 #[.int .i64 f, .slice A n c, .slice A2 m c2] := (by repeat (first | with_reducible assumption | with_reducible exact Bk.at_ (by first | (simp; done) | omega) | with_reducible refine Bk.alloc ?_ _ | with_reducible refine Bk.drew ?_ | with_reducible refine Bk.drewN ?_ _ | with_reducible refine Bk.step (by with_reducible assumption) ?_ (by first | omega | (simp <;> omega)))); have q0 := hbk1.cell 0; have q1 := hbk1.cell 1; (try simp at q0); (try simp at q1); obtain ⟨⟨r0, r1, r2⟩, -⟩ := hbg1.three; have oz1 := hb1.size; (try simp at oz1)))
    go_ret
    exact ⟨(by repeat (first | with_reducible exact Below.refl _ _ | with_reducible assumption | with_reducible refine Below.drew ?_ | with_reducible refine Below.drewN ?_ _ | with_reducible refine Below.alloc2 ?_ _ | with_reducible refine Below.alloc ?_ (by first | omega | (simp <;> omega)) _ | with_reducible refine Below.setCell ?_ (by first | omega | (simp <;> omega)) _ | with_reducible refine Below.step2 (by with_reducible assumption) ?_ | with_reducible refine Below.step (by with_reducible assumption) ?_ (by first | omega | (simp <;> omega)))), ret_bool (by simp only [tieIn, E1.out, E2.out]; rfl)⟩
  cases b2
  · go_enter Tryz.func82, Tryz.ntmps82
    go_wp2_with (first
        | (go_at_call 56; with_reducible refine (areFrom_one 0 ((n : Int) - 1) x _ _ ?_ ?_ _ E1.out).mono ?_; (focus (simp; done)); (focus (simp; done)); rintro e w1 ⟨hb1, rfl⟩; have hbk1 : Bk w1 w.heap.size 91 #[.int .i64 x, .int .i64 y] := (by repeat (first | with_reducible assumption | with_reducible exact Bk.at_ (by first | (simp; done) | omega) | with_reducible refine Bk.alloc ?_ _ | with_reducible refine Bk.drew ?_ | with_reducible refine Bk.drewN ?_ _ | with_reducible refine Bk.step (by with_reducible assumption) ?_ (by first | omega | (simp <;> omega)))); have hbg1 : Bk w1 g 24 #[.int .i64 f, .slice A n c, .slice A2 m c2] := (by repeat (first | with_reducible assumption | with_reducible exact Bk.at_ (by first | (simp; done) | omega) | with_reducible refine Bk.alloc ?_ _ | with_reducible refine Bk.drew ?_ | with_reducible refine Bk.drewN ?_ _ | with_reducible refine Bk.step (by with_reducible assumption) ?_ (by first | omega | (simp <;> omega)))); have q0 := hbk1.cell 0; have q1 := hbk1.cell 1; (try simp at q0); (try simp at q1); obtain ⟨⟨r0, r1, r2⟩, -⟩ := hbg1.three; have oz1 := hb1.size; (try simp at oz1))
        | (go_at_call 56; with_reducible refine (areFrom_one 0 ((m : Int) - 1) y _ _ ?_ ?_ _ E2.out).mono ?_; (focus (simp; done)); (focus (simp; done)); rintro e w1 ⟨hb1, rfl⟩; have hbk1 : Bk w1 w.heap.size 91 #[.int .i64 x, .int .i64 y] := (by repeat (first | with_reducible assumption | with_reducible exact Bk.at_ (by first | (simp; done) | omega) | with_reducible refine Bk.alloc ?_ _ | with_reducible refine Bk.drew ?_ | with_reducible refine Bk.drewN ?_ _ | with_reducible refine Bk.step (by with_reducible assumption) ?_ (by first | omega | (simp <;> omega)))); have hbg1 : Bk w1 g 24 #[.int .i64 f, .slice A n c, .slice A2 m c2] := (by repeat (first | with_reducible assumption | with_reducible exact Bk.at_ (by first | (simp; done) | omega) | with_reducible refine Bk.alloc ?_ _ | with_reducible refine Bk.drew ?_ | with_reducible refine Bk.drewN ?_ _ | with_reducible refine Bk.step (by with_reducible assumption) ?_ (by first | omega | (simp <;> omega)))); have q0 := hbk1.cell 0; have q1 := hbk1.cell 1; (try simp at q0); (try simp at q1); obtain ⟨⟨r0, r1, r2⟩, -⟩ := hbg1.three; have oz1 := hb1.size; (try simp at oz1)))
    go_ret
    exact ⟨(by repeat (first | with_reducible exact Below.refl _ _ | with_reducible assumption | with_reducible refine Below.drew ?_ | with_reducible refine Below.drewN ?_ _ | with_reducible refine Below.alloc2 ?_ _ | with_reducible refine Below.alloc ?_ (by first | omega | (simp <;> omega)) _ | with_reducible refine Below.setCell ?_ (by first | omega | (simp <;> omega)) _ | with_reducible refine Below.step2 (by with_reducible assumption) ?_ | with_reducible refine Below.step (by with_reducible assumption) ?_ (by first | omega | (simp <;> omega)))), ret_bool (by simp only [tieIn, E1.out, E2.out]; rfl)⟩
  · go_enter Tryz.func82, Tryz.ntmps82
    go_wp2_with (first
        | (go_at_call 56; with_reducible refine (areFrom_one 0 ((n : Int) - 1) x _ _ ?_ ?_ _ E1.out).mono ?_; (focus (simp; done)); (focus (simp; done)); rintro e w1 ⟨hb1, rfl⟩; have hbk1 : Bk w1 w.heap.size 91 #[.int .i64 x, .int .i64 y] := (by repeat (first | with_reducible assumption | with_reducible exact Bk.at_ (by first | (simp; done) | omega) | with_reducible refine Bk.alloc ?_ _ | with_reducible refine Bk.drew ?_ | with_reducible refine Bk.drewN ?_ _ | with_reducible refine Bk.step (by with_reducible assumption) ?_ (by first | omega | (simp <;> omega)))); have hbg1 : Bk w1 g 24 #[.int .i64 f, .slice A n c, .slice A2 m c2] := (by repeat (first | with_reducible assumption | with_reducible exact Bk.at_ (by first | (simp; done) | omega) | with_reducible refine Bk.alloc ?_ _ | with_reducible refine Bk.drew ?_ | with_reducible refine Bk.drewN ?_ _ | with_reducible refine Bk.step (by with_reducible assumption) ?_ (by first | omega | (simp <;> omega)))); have q0 := hbk1.cell 0; have q1 := hbk1.cell 1; (try simp at q0); (try simp at q1); obtain ⟨⟨r0, r1, r2⟩, -⟩ := hbg1.three; have oz1 := hb1.size; (try simp at oz1))
        | (go_at_call 56; with_reducible refine (areFrom_one 0 ((m : Int) - 1) y _ _ ?_ ?_ _ E2.out).mono ?_; (focus (simp; done)); (focus (simp; done)); rintro e w1 ⟨hb1, rfl⟩; have hbk1 : Bk w1 w.heap.size 91 #[.int .i64 x, .int .i64 y] := (by repeat (first | with_reducible assumption | with_reducible exact Bk.at_ (by first | (simp; done) | omega) | with_reducible refine Bk.alloc ?_ _ | with_reducible refine Bk.drew ?_ | with_reducible refine Bk.drewN ?_ _ | with_reducible refine Bk.step (by with_reducible assumption) ?_ (by first | omega | (simp <;> omega)))); have hbg1 : Bk w1 g 24 #[.int .i64 f, .slice A n c, .slice A2 m c2] := (by repeat (first | with_reducible assumption | with_reducible exact Bk.at_ (by first | (simp; done) | omega) | with_reducible refine Bk.alloc ?_ _ | with_reducible refine Bk.drew ?_ | with_reducible refine Bk.drewN ?_ _ | with_reducible refine Bk.step (by with_reducible assumption) ?_ (by first | omega | (simp <;> omega)))); have q0 := hbk1.cell 0; have q1 := hbk1.cell 1; (try simp at q0); (try simp at q1); obtain ⟨⟨r0, r1, r2⟩, -⟩ := hbg1.three; have oz1 := hb1.size; (try simp at oz1)))
    go_ret
    exact ⟨(by repeat (first | with_reducible exact Below.refl _ _ | with_reducible assumption | with_reducible refine Below.drew ?_ | with_reducible refine Below.drewN ?_ _ | with_reducible refine Below.alloc2 ?_ _ | with_reducible refine Below.alloc ?_ (by first | omega | (simp <;> omega)) _ | with_reducible refine Below.setCell ?_ (by first | omega | (simp <;> omega)) _ | with_reducible refine Below.step2 (by with_reducible assumption) ?_ | with_reducible refine Below.step (by with_reducible assumption) ?_ (by first | omega | (simp <;> omega)))), ret_bool (by simp only [tieIn, E1.out, E2.out]; rfl)⟩

theorem any_snoc' {α : Type} {p : α → Bool} {l : List α} {k : Nat} {x : α} (hx : l[k]? = some x) (h : (l.take k).any p = false) (h2 : p x = false) : (l.take (k + 1)).any p = false := by
  obtain ⟨hk, rfl⟩ := List.getElem?_eq_some_iff.1 hx
  rw [List.take_succ_eq_append_getElem hk, List.any_append, h]
  simpa using h2
set_option maxHeartbeats 2000000 in
theorem indexTies_any (f : Int) (A A2 T : Option Addr) (n c m c2 g k0 ct : Nat) (l : List (Int × Int)) (w : World) (hg : Bk w g 24 #[.int .i64 f, .slice A n c, .slice A2 m c2]) (hn : n ≤ c) (hc : c ≤ 9223372036854775807) (hm : m ≤ c2) (hc2 : c2 ≤ 9223372036854775807) (h : Pts w w.heap.size T k0 ct l) :
    Calls Tryz.prog 119 #[.slice T k0 ct, .func (.func 82) #[] #[.pointer (some ⟨g, 0, none⟩)]] w fun e w' => Below w.heap.size w w' ∧ ∃ r : Int, e = .returned (.int .i64 r) ∧ decide (0 ≤ r) = l.any (fun t => !tieIn n m t) := by
  have hcap := h.cap
  have hmax := h.max
  have hlen := Lib.hid h.len
  have H : Hid (∀ w', Below w.heap.size w w' → Pts w' w.heap.size T k0 ct l) := fun w' hb => h.below hb (Nat.le_refl _) (Nat.le_refl _)
  have HP : Hid (∀ (x y : Int) (w' : World), Below w.heap.size w w' → Calls Tryz.prog 82 #[.agg #[.int .i64 x, .int .i64 y], .pointer (some ⟨g, 0, none⟩)] w' fun e w'' => Below w'.heap.size w' w'' ∧ e = .returned (.bool (!tieIn n m (x, y)))) :=
    Lib.hid fun x y w' hb => tieOut_any f A A2 n c m c2 g x y w' (hg.below hb hg.lt) hn hc hm hc2
  clear hg hn hc hm hc2 h
  go_enter Tryz.func119, Tryz.ntmps119
  go_wp2
  go_loopw [5, 8] (fun _ i wr => ∃ k : Nat, k ≤ k0 ∧ i = .int .i64 k ∧ Hid ((l.take k).any (fun t => !tieIn n m t) = false) ∧ Below w.heap.size w wr) (fun _ i _ => k0 - (intOf i).toNat)
  case atStart => exact ⟨0, Nat.zero_le _, rfl, Lib.hid rfl, Below.refl _ _⟩
  case round =>
    obtain ⟨k, hk, rfl, hall, hb⟩ := hrel
    have HB := Lib.hid hb
    by_cases hlt : k < k0
    · obtain ⟨b, o, ⟨x, y⟩, rfl, hbb, hx, c0, c1⟩ := (H.out _ hb).at_ hlt
      dsimp only at c0 c1
      have HX := Lib.hid hx
      clear hx hb
      rcases hpx : tieIn n m (x, y)
      · have HPX := Lib.hid hpx
        clear hpx
        go_wp2_with (go_at_call 82; refine (HP.out x y _ HB.out).mono ?_; rintro e w1 ⟨hb1, rfl⟩; rw [HPX.out])
        go_ret
        have hb0 := HB.out
        refine ⟨(by repeat (first | with_reducible exact Below.refl _ _ | with_reducible assumption | with_reducible refine Below.drew ?_ | with_reducible refine Below.drewN ?_ _ | with_reducible refine Below.alloc2 ?_ _ | with_reducible refine Below.alloc ?_ (by first | omega | (simp <;> omega)) _ | with_reducible refine Below.setCell ?_ (by first | omega | (simp <;> omega)) _ | with_reducible refine Below.step2 (by with_reducible assumption) ?_ | with_reducible refine Below.step (by with_reducible assumption) ?_ (by first | omega | (simp <;> omega)))), k, rfl, ?_⟩
        rw [List.any_eq_true.2 ⟨(x, y), List.mem_of_getElem? HX.out, by simp [HPX.out]⟩]
        simp
      · have HPX := Lib.hid hpx
        clear hpx
        go_wp2_with (go_at_call 82; refine (HP.out x y _ HB.out).mono ?_; rintro e w1 ⟨hb1, rfl⟩; rw [HPX.out])
        go_roundw
        case rel =>
          have hb0 := HB.out
          exact ⟨k + 1, by omega, by go_num, Lib.hid (any_snoc' HX.out hall.out (by simp [HPX.out])), (by repeat (first | with_reducible exact Below.refl _ _ | with_reducible assumption | with_reducible refine Below.drew ?_ | with_reducible refine Below.drewN ?_ _ | with_reducible refine Below.alloc2 ?_ _ | with_reducible refine Below.alloc ?_ (by first | omega | (simp <;> omega)) _ | with_reducible refine Below.setCell ?_ (by first | omega | (simp <;> omega)) _ | with_reducible refine Below.step2 (by with_reducible assumption) ?_ | with_reducible refine Below.step (by with_reducible assumption) ?_ (by first | omega | (simp <;> omega))))⟩
        case measure => simp [intOf]; omega
    · clear hb
      go_wp2
      go_ret
      refine ⟨HB.out, -1, rfl, ?_⟩
      have := hall.out
      rw [List.take_of_length_le (by rw [hlen.out]; omega)] at this
      rw [this]
      decide

set_option maxHeartbeats 1000000 in
theorem containsTies_any (f : Int) (A A2 T : Option Addr) (n c m c2 g k0 ct : Nat) (l : List (Int × Int)) (w : World) (hg : Bk w g 24 #[.int .i64 f, .slice A n c, .slice A2 m c2]) (hn : n ≤ c) (hc : c ≤ 9223372036854775807) (hm : m ≤ c2) (hc2 : c2 ≤ 9223372036854775807) (h : Pts w w.heap.size T k0 ct l) :
    Calls Tryz.prog 83 #[.slice T k0 ct, .func (.func 82) #[] #[.pointer (some ⟨g, 0, none⟩)]] w fun e w' => Below w.heap.size w w' ∧ e = .returned (.bool (l.any (fun t => !tieIn n m t))) := by
  have HI := Lib.hid (indexTies_any f A A2 T n c m c2 g k0 ct l w hg hn hc hm hc2 h)
  clear hg hn hc hm hc2 h
  go_enter Tryz.func83, Tryz.ntmps83
  go_wp2_with (go_at_call 119; refine HI.out.mono ?_; rintro e w1 ⟨hb1, r, rfl, hr⟩; have HR := Lib.hid hr; clear hr)
  go_ret
  exact ⟨(by repeat (first | with_reducible exact Below.refl _ _ | with_reducible assumption | with_reducible refine Below.drew ?_ | with_reducible refine Below.drewN ?_ _ | with_reducible refine Below.alloc2 ?_ _ | with_reducible refine Below.alloc ?_ (by first | omega | (simp <;> omega)) _ | with_reducible refine Below.setCell ?_ (by first | omega | (simp <;> omega)) _ | with_reducible refine Below.step2 (by with_reducible assumption) ?_ | with_reducible refine Below.step (by with_reducible assumption) ?_ (by first | omega | (simp <;> omega)))), ret_bool (by rw [← HR.out])⟩

set_option maxHeartbeats 2000000 in
theorem tiesError_any (f : Int) (A A2 T : Option Addr) (n c m c2 k0 ct : Nat) (l : List (Int × Int)) (w : World) (hn : n ≤ c) (hc : c ≤ 9223372036854775807) (hm : m ≤ c2) (hc2 : c2 ≤ 9223372036854775807) (h : Pts w w.heap.size T k0 ct l) :
    Calls Tryz.prog 45 #[.agg #[.int .i64 f, .slice A n c, .slice A2 m c2], .slice T k0 ct] w fun e w' => Below w.heap.size w w' ∧ e = .returned (.int .i64 (tiesErr n m l)) := by
  have H : Hid (∀ w', Below w.heap.size w w' → Pts w' w'.heap.size T k0 ct l) := fun w' hb => h.below hb (Nat.le_refl _) hb.size
  obtain ⟨v1, e1⟩ : ∃ v, l.any (fun t => !tieIn n m t) = v := ⟨_, rfl⟩
  obtain ⟨v2, e2⟩ : ∃ v, ascT l = v := ⟨_, rfl⟩
  have C1 : Hid (∀ w', Bk w' w.heap.size 24 #[.int .i64 f, .slice A n c, .slice A2 m c2] → Below w.heap.size w w' → Calls Tryz.prog 83 #[.slice T k0 ct, .func (.func 82) #[] #[.pointer (some ⟨w.heap.size, 0, none⟩)]] w' fun e w'' => Below w'.heap.size w' w'' ∧ e = .returned (.bool v1)) := Lib.hid fun w' hk hb => by
    rw [← e1]; exact containsTies_any f A A2 T n c m c2 w.heap.size k0 ct l w' hk hn hc hm hc2 (H.out w' hb)
  have C2 : Hid (∀ w', Below w.heap.size w w' → Calls Tryz.prog 84 #[.slice T k0 ct, .func (.func 85) #[] #[]] w' fun e w'' => Below w'.heap.size w' w'' ∧ e = .returned (.bool v2)) := Lib.hid fun w' hb => by
    rw [← e2]; exact ascend_ties T k0 ct l w' (H.out w' hb)
  unfold tiesErr
  rw [e1, e2, h.len]
  clear e1 e2 H hn hc hm hc2 h
  by_cases hk : 1800 < k0
  · have hki : (1800 : Int) < (k0 : Int) := by omega
    rw [if_pos hk]
    clear hk
    (
        go_enter Tryz.func45, Tryz.ntmps45
        go_wp2_with (first
            | (go_at_call 83; refine (C1.out _ (by exact (by repeat (first | with_reducible assumption | with_reducible exact Bk.at_ (by first | (simp; done) | omega) | with_reducible refine Bk.alloc ?_ _ | with_reducible refine Bk.drew ?_ | with_reducible refine Bk.drewN ?_ _ | with_reducible refine Bk.step (by with_reducible assumption) ?_ (by first | omega | (simp <;> omega))))) (by exact (by repeat (first | with_reducible exact Below.refl _ _ | with_reducible assumption | with_reducible refine Below.drew ?_ | with_reducible refine Below.drewN ?_ _ | with_reducible refine Below.alloc2 ?_ _ | with_reducible refine Below.alloc ?_ (by first | omega | (simp <;> omega)) _ | with_reducible refine Below.setCell ?_ (by first | omega | (simp <;> omega)) _ | with_reducible refine Below.step2 (by with_reducible assumption) ?_ | with_reducible refine Below.step (by with_reducible assumption) ?_ (by first | omega | (simp <;> omega)))))).mono ?_; rintro e w1 ⟨hb1, rfl⟩)
            | (go_at_call 84; refine (C2.out _ (by exact (by repeat (first | with_reducible exact Below.refl _ _ | with_reducible assumption | with_reducible refine Below.drew ?_ | with_reducible refine Below.drewN ?_ _ | with_reducible refine Below.alloc2 ?_ _ | with_reducible refine Below.alloc ?_ (by first | omega | (simp <;> omega)) _ | with_reducible refine Below.setCell ?_ (by first | omega | (simp <;> omega)) _ | with_reducible refine Below.step2 (by with_reducible assumption) ?_ | with_reducible refine Below.step (by with_reducible assumption) ?_ (by first | omega | (simp <;> omega)))))).mono ?_; rintro e w1 ⟨hb1, rfl⟩))
        go_ret
        exact ⟨(by repeat (first | with_reducible exact Below.refl _ _ | with_reducible assumption | with_reducible refine Below.drew ?_ | with_reducible refine Below.drewN ?_ _ | with_reducible refine Below.alloc2 ?_ _ | with_reducible refine Below.alloc ?_ (by first | omega | (simp <;> omega)) _ | with_reducible refine Below.setCell ?_ (by first | omega | (simp <;> omega)) _ | with_reducible refine Below.step2 (by with_reducible assumption) ?_ | with_reducible refine Below.step (by with_reducible assumption) ?_ (by first | omega | (simp <;> omega)))), rfl⟩)
  · have hki : ¬ (1800 : Int) < (k0 : Int) := by omega
    rw [if_neg hk]
    clear hk
    cases v1
    · cases v2
      · (
            go_enter Tryz.func45, Tryz.ntmps45
            go_wp2_with (first
                | (go_at_call 83; refine (C1.out _ (by exact (by repeat (first | with_reducible assumption | with_reducible exact Bk.at_ (by first | (simp; done) | omega) | with_reducible refine Bk.alloc ?_ _ | with_reducible refine Bk.drew ?_ | with_reducible refine Bk.drewN ?_ _ | with_reducible refine Bk.step (by with_reducible assumption) ?_ (by first | omega | (simp <;> omega))))) (by exact (by repeat (first | with_reducible exact Below.refl _ _ | with_reducible assumption | with_reducible refine Below.drew ?_ | with_reducible refine Below.drewN ?_ _ | with_reducible refine Below.alloc2 ?_ _ | with_reducible refine Below.alloc ?_ (by first | omega | (simp <;> omega)) _ | with_reducible refine Below.setCell ?_ (by first | omega | (simp <;> omega)) _ | with_reducible refine Below.step2 (by with_reducible assumption) ?_ | with_reducible refine Below.step (by with_reducible assumption) ?_ (by first | omega | (simp <;> omega)))))).mono ?_; rintro e w1 ⟨hb1, rfl⟩)
                | (go_at_call 84; refine (C2.out _ (by exact (by repeat (first | with_reducible exact Below.refl _ _ | with_reducible assumption | with_reducible refine Below.drew ?_ | with_reducible refine Below.drewN ?_ _ | with_reducible refine Below.alloc2 ?_ _ | with_reducible refine Below.alloc ?_ (by first | omega | (simp <;> omega)) _ | with_reducible refine Below.setCell ?_ (by first | omega | (simp <;> omega)) _ | with_reducible refine Below.step2 (by with_reducible assumption) ?_ | with_reducible refine Below.step (by with_reducible assumption) ?_ (by first | omega | (simp <;> omega)))))).mono ?_; rintro e w1 ⟨hb1, rfl⟩))
            go_ret
            exact ⟨(by repeat (first | with_reducible exact Below.refl _ _ | with_reducible assumption | with_reducible refine Below.drew ?_ | with_reducible refine Below.drewN ?_ _ | with_reducible refine Below.alloc2 ?_ _ | with_reducible refine Below.alloc ?_ (by first | omega | (simp <;> omega)) _ | with_reducible refine Below.setCell ?_ (by first | omega | (simp <;> omega)) _ | with_reducible refine Below.step2 (by with_reducible assumption) ?_ | with_reducible refine Below.step (by with_reducible assumption) ?_ (by first | omega | (simp <;> omega)))), rfl⟩)
      · (
            go_enter Tryz.func45, Tryz.ntmps45
            go_wp2_with (first
                | (go_at_call 83; refine (C1.out _ (by exact (by repeat (first | with_reducible assumption | with_reducible exact Bk.at_ (by first | (simp; done) | omega) | with_reducible refine Bk.alloc ?_ _ | with_reducible refine Bk.drew ?_ | with_reducible refine Bk.drewN ?_ _ | with_reducible refine Bk.step (by with_reducible assumption) ?_ (by first | omega | (simp <;> omega))))) (by exact (by repeat (first | with_reducible exact Below.refl _ _ | with_reducible assumption | with_reducible refine Below.drew ?_ | with_reducible refine Below.drewN ?_ _ | with_reducible refine Below.alloc2 ?_ _ | with_reducible refine Below.alloc ?_ (by first | omega | (simp <;> omega)) _ | with_reducible refine Below.setCell ?_ (by first | omega | (simp <;> omega)) _ | with_reducible refine Below.step2 (by with_reducible assumption) ?_ | with_reducible refine Below.step (by with_reducible assumption) ?_ (by first | omega | (simp <;> omega)))))).mono ?_; rintro e w1 ⟨hb1, rfl⟩)
                | (go_at_call 84; refine (C2.out _ (by exact (by repeat (first | with_reducible exact Below.refl _ _ | with_reducible assumption | with_reducible refine Below.drew ?_ | with_reducible refine Below.drewN ?_ _ | with_reducible refine Below.alloc2 ?_ _ | with_reducible refine Below.alloc ?_ (by first | omega | (simp <;> omega)) _ | with_reducible refine Below.setCell ?_ (by first | omega | (simp <;> omega)) _ | with_reducible refine Below.step2 (by with_reducible assumption) ?_ | with_reducible refine Below.step (by with_reducible assumption) ?_ (by first | omega | (simp <;> omega)))))).mono ?_; rintro e w1 ⟨hb1, rfl⟩))
            go_ret
            exact ⟨(by repeat (first | with_reducible exact Below.refl _ _ | with_reducible assumption | with_reducible refine Below.drew ?_ | with_reducible refine Below.drewN ?_ _ | with_reducible refine Below.alloc2 ?_ _ | with_reducible refine Below.alloc ?_ (by first | omega | (simp <;> omega)) _ | with_reducible refine Below.setCell ?_ (by first | omega | (simp <;> omega)) _ | with_reducible refine Below.step2 (by with_reducible assumption) ?_ | with_reducible refine Below.step (by with_reducible assumption) ?_ (by first | omega | (simp <;> omega)))), rfl⟩)
    · (
          go_enter Tryz.func45, Tryz.ntmps45
          go_wp2_with (first
              | (go_at_call 83; refine (C1.out _ (by exact (by repeat (first | with_reducible assumption | with_reducible exact Bk.at_ (by first | (simp; done) | omega) | with_reducible refine Bk.alloc ?_ _ | with_reducible refine Bk.drew ?_ | with_reducible refine Bk.drewN ?_ _ | with_reducible refine Bk.step (by with_reducible assumption) ?_ (by first | omega | (simp <;> omega))))) (by exact (by repeat (first | with_reducible exact Below.refl _ _ | with_reducible assumption | with_reducible refine Below.drew ?_ | with_reducible refine Below.drewN ?_ _ | with_reducible refine Below.alloc2 ?_ _ | with_reducible refine Below.alloc ?_ (by first | omega | (simp <;> omega)) _ | with_reducible refine Below.setCell ?_ (by first | omega | (simp <;> omega)) _ | with_reducible refine Below.step2 (by with_reducible assumption) ?_ | with_reducible refine Below.step (by with_reducible assumption) ?_ (by first | omega | (simp <;> omega)))))).mono ?_; rintro e w1 ⟨hb1, rfl⟩)
              | (go_at_call 84; refine (C2.out _ (by exact (by repeat (first | with_reducible exact Below.refl _ _ | with_reducible assumption | with_reducible refine Below.drew ?_ | with_reducible refine Below.drewN ?_ _ | with_reducible refine Below.alloc2 ?_ _ | with_reducible refine Below.alloc ?_ (by first | omega | (simp <;> omega)) _ | with_reducible refine Below.setCell ?_ (by first | omega | (simp <;> omega)) _ | with_reducible refine Below.step2 (by with_reducible assumption) ?_ | with_reducible refine Below.step (by with_reducible assumption) ?_ (by first | omega | (simp <;> omega)))))).mono ?_; rintro e w1 ⟨hb1, rfl⟩))
          go_ret
          exact ⟨(by repeat (first | with_reducible exact Below.refl _ _ | with_reducible assumption | with_reducible refine Below.drew ?_ | with_reducible refine Below.drewN ?_ _ | with_reducible refine Below.alloc2 ?_ _ | with_reducible refine Below.alloc ?_ (by first | omega | (simp <;> omega)) _ | with_reducible refine Below.setCell ?_ (by first | omega | (simp <;> omega)) _ | with_reducible refine Below.step2 (by with_reducible assumption) ?_ | with_reducible refine Below.step (by with_reducible assumption) ?_ (by first | omega | (simp <;> omega)))), rfl⟩)

end Go.Proofs.YtgljncfijcamhaaGreatDoor
