/- The law RecordTotals, out of its callees' contracts. -/
import Derived.Test.YtechchkobmffgaaTotal9
import Derived.Test.YtechchkobmffgaaAwake9
namespace Go.Proofs.Ytechchkobmffgaa
open Go.RowKit Go.WideShapes

theorem info_ch : (Try.prog.info? 85).map (fun i => (i.zero.map (·.cells.size), i.size, i.bytes)) = some (some 4, 4, 40) := by kernel_rfl
theorem totErr_kinds (l : List Q4) : totErr l = 0 ∧ l.all amtB = true ∧ l.length ≤ 2000 ∨ totErr l = 2 ∨ totErr l = 8 := by
  unfold totErr
  split
  · exact .inr (.inr rfl)
  · split
    · exact .inl ⟨rfl, by assumption, by omega⟩
    · exact .inr (.inl rfl)
set_option maxRecDepth 100000 in
set_option maxHeartbeats 4000000 in
theorem lawTotals_any (A : Option Addr) (n c : Nat) (l : List Q4) (w : World) (h : Rws Q4.cs 4 w w.heap.size A n c l) :
    Calls Try.prog 8 #[.slice A n c] w fun e w' => Below w.heap.size w w' ∧ e = .returned (.bool true) := by
  have hcap := h.cap
  have hmax := h.max
  have HLEN := Lib.hid h.len
  have H : Hid (∀ w', Below w.heap.size w w' → Rws Q4.cs 4 w' w'.heap.size A n c l) := fun w' hb => h.below hb (Nat.le_refl _) hb.size
  obtain ⟨i0, z, hi0, hz0, hzs, hz1, hz2⟩ := info_cells info_ch
  have HI0 := Lib.hid hi0
  have HZ0 := Lib.hid hz0
  have HZ1 := Lib.hid hz1
  have HZ2 := Lib.hid hz2
  have HZS := Lib.hid hzs
  clear hi0 hz0 hz1 hz2 hzs h
  by_cases hq : 100 < n ∧ n ≤ 2000 ∨ 2005 < n
  · by_cases q1 : 100 < n
    · by_cases q2 : n ≤ 2000
      · go_enter Try.func8, Try.ntmps8
        go_wp2_with (go_at_call 11; refine (awake_true _).mono ?_; rintro e w1 ⟨hb1, rfl⟩; have oz1 := hb1.size; (try simp at oz1); have HBA := Lib.hid hb1; have HRA := Lib.hid (H.out _ hb1); clear hb1)
        go_ret
        exact ⟨HBA.out, rfl⟩
      · go_enter Try.func8, Try.ntmps8
        go_wp2_with (go_at_call 11; refine (awake_true _).mono ?_; rintro e w1 ⟨hb1, rfl⟩; have oz1 := hb1.size; (try simp at oz1); have HBA := Lib.hid hb1; have HRA := Lib.hid (H.out _ hb1); clear hb1)
        go_ret
        exact ⟨HBA.out, rfl⟩
    · omega
  have hn : n ≤ 2005 := by omega
  have key : ∀ E : Int, totErr l = E → (E = 0 → l.all amtB = true ∧ n ≤ 2000) → (E = 0 ∨ E = 2 ∨ E = 8) → Calls Try.prog 8 #[.slice A n c] w fun e w' => Below w.heap.size w w' ∧ e = .returned (.bool true) := by
    intro E hE hall hk
    have TT : Hid (∀ (A : Option Addr) (n c : Nat) (w : World), Rws Q4.cs 4 w w.heap.size A n c l → Calls Try.prog 40 #[.slice A n c] w fun e w' => Below w.heap.size w w' ∧ e = .returned (.tuple #[.int .i64 (if E = 0 then sumC l else 0), .int .i64 E])) := Lib.hid fun A n c w h => by have := total_any A n c l w h; rwa [hE] at this
    have CT : Hid (∀ (A : Option Addr) (n c B : Nat) (w : World), Rws Q4.cs 4 w B A n c l → Calls Try.prog 41 #[.slice A n c] w fun e w' => w = w' ∧ e = .returned (.int .i64 E)) := Lib.hid fun A n c B w h => by have := refCheckTotal_any A n c B l w h; rwa [hE] at this
    by_cases q1 : 100 < n
    · have q2 : 2000 < n := by omega
      clear hq
      rcases hk with rfl | rfl | rfl
      · obtain ⟨-, hx⟩ := hall rfl
        omega
      · have HALL : True := trivial
        clear hE hall
        (
              go_enter Try.func8, Try.ntmps8
              go_wp2_with (first
        | (go_at_call 11; refine (awake_true _).mono ?_; rintro e w1 ⟨hb1, rfl⟩; have oz1 := hb1.size; (try simp at oz1); have HBA := Lib.hid hb1; have HRA := Lib.hid (H.out _ hb1); clear hb1)
        | (at_builtin; refine wpList_copy rfl _ _ _ rfl w1.heap.size 85 i0 _ 4 40 Try.underlying62 HI0.out HZ0.out HZ1.out HZ2.out HZS.out (by omega) _ rfl (World.ownsRow_made _ #[] 0 (Nat.le_refl _) (by unfold maxLen; omega) rfl) Q4.wide rfl (H.out _ (by have := HBA.out; exact (by repeat (first | with_reducible exact Below.refl _ _ | with_reducible assumption | with_reducible refine Below.drew ?_ | with_reducible refine Below.drewN ?_ _ | with_reducible refine Below.alloc2 ?_ _ | with_reducible refine Below.alloc ?_ (by first | omega | (simp <;> omega)) _ | with_reducible refine Below.setCell ?_ (by first | omega | (simp <;> omega)) _ | with_reducible refine Below.step2 (by with_reducible assumption) ?_ | with_reducible refine Below.step (by with_reducible assumption) ?_ (by first | omega | (simp <;> omega)))))) (ones_of Q4.one l) (by unfold maxLen; omega) (by omega) (by simp) ?_; intro v1 w2 hown1 hg1; obtain ⟨A', c', rfl, hr1⟩ := Rws.of_own (l := l) (by simpa using hown1) (by simpa using HLEN.out); have HR1 := Lib.hid hr1; have hbA := HBA.out; have hb2 : Below w.heap.size w w2 := Below.grown_ (by exact (by repeat (first | with_reducible exact Below.refl _ _ | with_reducible assumption | with_reducible refine Below.drew ?_ | with_reducible refine Below.drewN ?_ _ | with_reducible refine Below.alloc2 ?_ _ | with_reducible refine Below.alloc ?_ (by first | omega | (simp <;> omega)) _ | with_reducible refine Below.setCell ?_ (by first | omega | (simp <;> omega)) _ | with_reducible refine Below.step2 (by with_reducible assumption) ?_ | with_reducible refine Below.step (by with_reducible assumption) ?_ (by first | omega | (simp <;> omega))))) hg1 (by simp; omega) (fun q hq => by cases hq; omega); have oz2 := hb2.size; have HB2 := Lib.hid hb2; clear hown1 hg1 hbA hb2 hr1)
        | (go_at_call 40; with_reducible refine (TT.out _ _ _ _ HR1.out).mono ?_; rintro e w3 ⟨hb3, rfl⟩; have oz3 := hb3.size; (try simp at oz3); have HB3 : Hid (Below w.heap.size w w3) := Lib.hid (by have hb0 := HB2.out; exact (by repeat (first | with_reducible exact Below.refl _ _ | with_reducible assumption | with_reducible refine Below.drew ?_ | with_reducible refine Below.drewN ?_ _ | with_reducible refine Below.alloc2 ?_ _ | with_reducible refine Below.alloc ?_ (by first | omega | (simp <;> omega)) _ | with_reducible refine Below.setCell ?_ (by first | omega | (simp <;> omega)) _ | with_reducible refine Below.step2 (by with_reducible assumption) ?_ | with_reducible refine Below.step (by with_reducible assumption) ?_ (by first | omega | (simp <;> omega))))); clear hb3)
        | (go_at_call 41; with_reducible refine (CT.out _ _ _ _ _ (H.out _ HB3.out)).mono ?_; rintro e w' ⟨rfl, rfl⟩)
        | (go_at_call 42; with_reducible refine (refTotal_any _ _ _ _ l _ (H.out _ HB3.out) HALL.out (by omega)).mono ?_; rintro e w' ⟨rfl, rfl⟩))
              go_ret
              exact ⟨HB3.out, rfl⟩)
      · have HALL : True := trivial
        clear hE hall
        (
              go_enter Try.func8, Try.ntmps8
              go_wp2_with (first
        | (go_at_call 11; refine (awake_true _).mono ?_; rintro e w1 ⟨hb1, rfl⟩; have oz1 := hb1.size; (try simp at oz1); have HBA := Lib.hid hb1; have HRA := Lib.hid (H.out _ hb1); clear hb1)
        | (at_builtin; refine wpList_copy rfl _ _ _ rfl w1.heap.size 85 i0 _ 4 40 Try.underlying62 HI0.out HZ0.out HZ1.out HZ2.out HZS.out (by omega) _ rfl (World.ownsRow_made _ #[] 0 (Nat.le_refl _) (by unfold maxLen; omega) rfl) Q4.wide rfl (H.out _ (by have := HBA.out; exact (by repeat (first | with_reducible exact Below.refl _ _ | with_reducible assumption | with_reducible refine Below.drew ?_ | with_reducible refine Below.drewN ?_ _ | with_reducible refine Below.alloc2 ?_ _ | with_reducible refine Below.alloc ?_ (by first | omega | (simp <;> omega)) _ | with_reducible refine Below.setCell ?_ (by first | omega | (simp <;> omega)) _ | with_reducible refine Below.step2 (by with_reducible assumption) ?_ | with_reducible refine Below.step (by with_reducible assumption) ?_ (by first | omega | (simp <;> omega)))))) (ones_of Q4.one l) (by unfold maxLen; omega) (by omega) (by simp) ?_; intro v1 w2 hown1 hg1; obtain ⟨A', c', rfl, hr1⟩ := Rws.of_own (l := l) (by simpa using hown1) (by simpa using HLEN.out); have HR1 := Lib.hid hr1; have hbA := HBA.out; have hb2 : Below w.heap.size w w2 := Below.grown_ (by exact (by repeat (first | with_reducible exact Below.refl _ _ | with_reducible assumption | with_reducible refine Below.drew ?_ | with_reducible refine Below.drewN ?_ _ | with_reducible refine Below.alloc2 ?_ _ | with_reducible refine Below.alloc ?_ (by first | omega | (simp <;> omega)) _ | with_reducible refine Below.setCell ?_ (by first | omega | (simp <;> omega)) _ | with_reducible refine Below.step2 (by with_reducible assumption) ?_ | with_reducible refine Below.step (by with_reducible assumption) ?_ (by first | omega | (simp <;> omega))))) hg1 (by simp; omega) (fun q hq => by cases hq; omega); have oz2 := hb2.size; have HB2 := Lib.hid hb2; clear hown1 hg1 hbA hb2 hr1)
        | (go_at_call 40; with_reducible refine (TT.out _ _ _ _ HR1.out).mono ?_; rintro e w3 ⟨hb3, rfl⟩; have oz3 := hb3.size; (try simp at oz3); have HB3 : Hid (Below w.heap.size w w3) := Lib.hid (by have hb0 := HB2.out; exact (by repeat (first | with_reducible exact Below.refl _ _ | with_reducible assumption | with_reducible refine Below.drew ?_ | with_reducible refine Below.drewN ?_ _ | with_reducible refine Below.alloc2 ?_ _ | with_reducible refine Below.alloc ?_ (by first | omega | (simp <;> omega)) _ | with_reducible refine Below.setCell ?_ (by first | omega | (simp <;> omega)) _ | with_reducible refine Below.step2 (by with_reducible assumption) ?_ | with_reducible refine Below.step (by with_reducible assumption) ?_ (by first | omega | (simp <;> omega))))); clear hb3)
        | (go_at_call 41; with_reducible refine (CT.out _ _ _ _ _ (H.out _ HB3.out)).mono ?_; rintro e w' ⟨rfl, rfl⟩)
        | (go_at_call 42; with_reducible refine (refTotal_any _ _ _ _ l _ (H.out _ HB3.out) HALL.out (by omega)).mono ?_; rintro e w' ⟨rfl, rfl⟩))
              go_ret
              exact ⟨HB3.out, rfl⟩)
    · clear hq
      rcases hk with rfl | rfl | rfl
      · obtain ⟨hall, -⟩ := hall rfl
        have HALL := Lib.hid hall
        clear hE hall
        (
              go_enter Try.func8, Try.ntmps8
              go_wp2_with (first
        | (go_at_call 11; refine (awake_true _).mono ?_; rintro e w1 ⟨hb1, rfl⟩; have oz1 := hb1.size; (try simp at oz1); have HBA := Lib.hid hb1; have HRA := Lib.hid (H.out _ hb1); clear hb1)
        | (at_builtin; refine wpList_copy rfl _ _ _ rfl w1.heap.size 85 i0 _ 4 40 Try.underlying62 HI0.out HZ0.out HZ1.out HZ2.out HZS.out (by omega) _ rfl (World.ownsRow_made _ #[] 0 (Nat.le_refl _) (by unfold maxLen; omega) rfl) Q4.wide rfl (H.out _ (by have := HBA.out; exact (by repeat (first | with_reducible exact Below.refl _ _ | with_reducible assumption | with_reducible refine Below.drew ?_ | with_reducible refine Below.drewN ?_ _ | with_reducible refine Below.alloc2 ?_ _ | with_reducible refine Below.alloc ?_ (by first | omega | (simp <;> omega)) _ | with_reducible refine Below.setCell ?_ (by first | omega | (simp <;> omega)) _ | with_reducible refine Below.step2 (by with_reducible assumption) ?_ | with_reducible refine Below.step (by with_reducible assumption) ?_ (by first | omega | (simp <;> omega)))))) (ones_of Q4.one l) (by unfold maxLen; omega) (by omega) (by simp) ?_; intro v1 w2 hown1 hg1; obtain ⟨A', c', rfl, hr1⟩ := Rws.of_own (l := l) (by simpa using hown1) (by simpa using HLEN.out); have HR1 := Lib.hid hr1; have hbA := HBA.out; have hb2 : Below w.heap.size w w2 := Below.grown_ (by exact (by repeat (first | with_reducible exact Below.refl _ _ | with_reducible assumption | with_reducible refine Below.drew ?_ | with_reducible refine Below.drewN ?_ _ | with_reducible refine Below.alloc2 ?_ _ | with_reducible refine Below.alloc ?_ (by first | omega | (simp <;> omega)) _ | with_reducible refine Below.setCell ?_ (by first | omega | (simp <;> omega)) _ | with_reducible refine Below.step2 (by with_reducible assumption) ?_ | with_reducible refine Below.step (by with_reducible assumption) ?_ (by first | omega | (simp <;> omega))))) hg1 (by simp; omega) (fun q hq => by cases hq; omega); have oz2 := hb2.size; have HB2 := Lib.hid hb2; clear hown1 hg1 hbA hb2 hr1)
        | (go_at_call 40; with_reducible refine (TT.out _ _ _ _ HR1.out).mono ?_; rintro e w3 ⟨hb3, rfl⟩; have oz3 := hb3.size; (try simp at oz3); have HB3 : Hid (Below w.heap.size w w3) := Lib.hid (by have hb0 := HB2.out; exact (by repeat (first | with_reducible exact Below.refl _ _ | with_reducible assumption | with_reducible refine Below.drew ?_ | with_reducible refine Below.drewN ?_ _ | with_reducible refine Below.alloc2 ?_ _ | with_reducible refine Below.alloc ?_ (by first | omega | (simp <;> omega)) _ | with_reducible refine Below.setCell ?_ (by first | omega | (simp <;> omega)) _ | with_reducible refine Below.step2 (by with_reducible assumption) ?_ | with_reducible refine Below.step (by with_reducible assumption) ?_ (by first | omega | (simp <;> omega))))); clear hb3)
        | (go_at_call 41; with_reducible refine (CT.out _ _ _ _ _ (H.out _ HB3.out)).mono ?_; rintro e w' ⟨rfl, rfl⟩)
        | (go_at_call 42; with_reducible refine (refTotal_any _ _ _ _ l _ (H.out _ HB3.out) HALL.out (by omega)).mono ?_; rintro e w' ⟨rfl, rfl⟩))
              go_ret
              exact ⟨HB3.out, rfl⟩)
      · have HALL : True := trivial
        clear hE hall
        (
              go_enter Try.func8, Try.ntmps8
              go_wp2_with (first
        | (go_at_call 11; refine (awake_true _).mono ?_; rintro e w1 ⟨hb1, rfl⟩; have oz1 := hb1.size; (try simp at oz1); have HBA := Lib.hid hb1; have HRA := Lib.hid (H.out _ hb1); clear hb1)
        | (at_builtin; refine wpList_copy rfl _ _ _ rfl w1.heap.size 85 i0 _ 4 40 Try.underlying62 HI0.out HZ0.out HZ1.out HZ2.out HZS.out (by omega) _ rfl (World.ownsRow_made _ #[] 0 (Nat.le_refl _) (by unfold maxLen; omega) rfl) Q4.wide rfl (H.out _ (by have := HBA.out; exact (by repeat (first | with_reducible exact Below.refl _ _ | with_reducible assumption | with_reducible refine Below.drew ?_ | with_reducible refine Below.drewN ?_ _ | with_reducible refine Below.alloc2 ?_ _ | with_reducible refine Below.alloc ?_ (by first | omega | (simp <;> omega)) _ | with_reducible refine Below.setCell ?_ (by first | omega | (simp <;> omega)) _ | with_reducible refine Below.step2 (by with_reducible assumption) ?_ | with_reducible refine Below.step (by with_reducible assumption) ?_ (by first | omega | (simp <;> omega)))))) (ones_of Q4.one l) (by unfold maxLen; omega) (by omega) (by simp) ?_; intro v1 w2 hown1 hg1; obtain ⟨A', c', rfl, hr1⟩ := Rws.of_own (l := l) (by simpa using hown1) (by simpa using HLEN.out); have HR1 := Lib.hid hr1; have hbA := HBA.out; have hb2 : Below w.heap.size w w2 := Below.grown_ (by exact (by repeat (first | with_reducible exact Below.refl _ _ | with_reducible assumption | with_reducible refine Below.drew ?_ | with_reducible refine Below.drewN ?_ _ | with_reducible refine Below.alloc2 ?_ _ | with_reducible refine Below.alloc ?_ (by first | omega | (simp <;> omega)) _ | with_reducible refine Below.setCell ?_ (by first | omega | (simp <;> omega)) _ | with_reducible refine Below.step2 (by with_reducible assumption) ?_ | with_reducible refine Below.step (by with_reducible assumption) ?_ (by first | omega | (simp <;> omega))))) hg1 (by simp; omega) (fun q hq => by cases hq; omega); have oz2 := hb2.size; have HB2 := Lib.hid hb2; clear hown1 hg1 hbA hb2 hr1)
        | (go_at_call 40; with_reducible refine (TT.out _ _ _ _ HR1.out).mono ?_; rintro e w3 ⟨hb3, rfl⟩; have oz3 := hb3.size; (try simp at oz3); have HB3 : Hid (Below w.heap.size w w3) := Lib.hid (by have hb0 := HB2.out; exact (by repeat (first | with_reducible exact Below.refl _ _ | with_reducible assumption | with_reducible refine Below.drew ?_ | with_reducible refine Below.drewN ?_ _ | with_reducible refine Below.alloc2 ?_ _ | with_reducible refine Below.alloc ?_ (by first | omega | (simp <;> omega)) _ | with_reducible refine Below.setCell ?_ (by first | omega | (simp <;> omega)) _ | with_reducible refine Below.step2 (by with_reducible assumption) ?_ | with_reducible refine Below.step (by with_reducible assumption) ?_ (by first | omega | (simp <;> omega))))); clear hb3)
        | (go_at_call 41; with_reducible refine (CT.out _ _ _ _ _ (H.out _ HB3.out)).mono ?_; rintro e w' ⟨rfl, rfl⟩)
        | (go_at_call 42; with_reducible refine (refTotal_any _ _ _ _ l _ (H.out _ HB3.out) HALL.out (by omega)).mono ?_; rintro e w' ⟨rfl, rfl⟩))
              go_ret
              exact ⟨HB3.out, rfl⟩)
      · have HALL : True := trivial
        clear hE hall
        (
              go_enter Try.func8, Try.ntmps8
              go_wp2_with (first
        | (go_at_call 11; refine (awake_true _).mono ?_; rintro e w1 ⟨hb1, rfl⟩; have oz1 := hb1.size; (try simp at oz1); have HBA := Lib.hid hb1; have HRA := Lib.hid (H.out _ hb1); clear hb1)
        | (at_builtin; refine wpList_copy rfl _ _ _ rfl w1.heap.size 85 i0 _ 4 40 Try.underlying62 HI0.out HZ0.out HZ1.out HZ2.out HZS.out (by omega) _ rfl (World.ownsRow_made _ #[] 0 (Nat.le_refl _) (by unfold maxLen; omega) rfl) Q4.wide rfl (H.out _ (by have := HBA.out; exact (by repeat (first | with_reducible exact Below.refl _ _ | with_reducible assumption | with_reducible refine Below.drew ?_ | with_reducible refine Below.drewN ?_ _ | with_reducible refine Below.alloc2 ?_ _ | with_reducible refine Below.alloc ?_ (by first | omega | (simp <;> omega)) _ | with_reducible refine Below.setCell ?_ (by first | omega | (simp <;> omega)) _ | with_reducible refine Below.step2 (by with_reducible assumption) ?_ | with_reducible refine Below.step (by with_reducible assumption) ?_ (by first | omega | (simp <;> omega)))))) (ones_of Q4.one l) (by unfold maxLen; omega) (by omega) (by simp) ?_; intro v1 w2 hown1 hg1; obtain ⟨A', c', rfl, hr1⟩ := Rws.of_own (l := l) (by simpa using hown1) (by simpa using HLEN.out); have HR1 := Lib.hid hr1; have hbA := HBA.out; have hb2 : Below w.heap.size w w2 := Below.grown_ (by exact (by repeat (first | with_reducible exact Below.refl _ _ | with_reducible assumption | with_reducible refine Below.drew ?_ | with_reducible refine Below.drewN ?_ _ | with_reducible refine Below.alloc2 ?_ _ | with_reducible refine Below.alloc ?_ (by first | omega | (simp <;> omega)) _ | with_reducible refine Below.setCell ?_ (by first | omega | (simp <;> omega)) _ | with_reducible refine Below.step2 (by with_reducible assumption) ?_ | with_reducible refine Below.step (by with_reducible assumption) ?_ (by first | omega | (simp <;> omega))))) hg1 (by simp; omega) (fun q hq => by cases hq; omega); have oz2 := hb2.size; have HB2 := Lib.hid hb2; clear hown1 hg1 hbA hb2 hr1)
        | (go_at_call 40; with_reducible refine (TT.out _ _ _ _ HR1.out).mono ?_; rintro e w3 ⟨hb3, rfl⟩; have oz3 := hb3.size; (try simp at oz3); have HB3 : Hid (Below w.heap.size w w3) := Lib.hid (by have hb0 := HB2.out; exact (by repeat (first | with_reducible exact Below.refl _ _ | with_reducible assumption | with_reducible refine Below.drew ?_ | with_reducible refine Below.drewN ?_ _ | with_reducible refine Below.alloc2 ?_ _ | with_reducible refine Below.alloc ?_ (by first | omega | (simp <;> omega)) _ | with_reducible refine Below.setCell ?_ (by first | omega | (simp <;> omega)) _ | with_reducible refine Below.step2 (by with_reducible assumption) ?_ | with_reducible refine Below.step (by with_reducible assumption) ?_ (by first | omega | (simp <;> omega))))); clear hb3)
        | (go_at_call 41; with_reducible refine (CT.out _ _ _ _ _ (H.out _ HB3.out)).mono ?_; rintro e w' ⟨rfl, rfl⟩)
        | (go_at_call 42; with_reducible refine (refTotal_any _ _ _ _ l _ (H.out _ HB3.out) HALL.out (by omega)).mono ?_; rintro e w' ⟨rfl, rfl⟩))
              go_ret
              exact ⟨HB3.out, rfl⟩)
  rcases totErr_kinds l with ⟨e, e2, e3⟩ | e | e
  · exact key 0 e (fun _ => ⟨e2, by rw [HLEN.out] at e3; exact e3⟩) (.inl rfl)
  · exact key 2 e (fun h => by cases h) (.inr (.inl rfl))
  · exact key 8 e (fun h => by cases h) (.inr (.inr rfl))

end Go.Proofs.Ytechchkobmffgaa
