/- Chapter 9, walks: accepted. -/
import Derived.Test.YtgjjjnofdjhikaaCorrect9
namespace Go.Proofs.Ytgjjjnofdjhikaa
open Go.RowKit Go.WideShapes

theorem Rws.own {α : Type} {f : α → List Value} {size base e n c : Nat} {A : Option Addr} {l : List α} {w : World} (h : w.ownsRow base e size (.slice A n c) n (l.flatMap f)) (hl : l.length = n) : Rws f size w w.heap.size A n c l := by
  obtain ⟨A', c', e, hr⟩ := Rws.of_own h hl
  injection e with e1 e2 e3
  subst e1; subst e3
  exact hr
theorem Rws.big {α : Type} {f : α → List Value} {size n c B B' : Nat} {A : Option Addr} {l : List α} {w : World} (h : Rws f size w B A n c l) (hB : B ≤ B') : Rws f size w B' A n c l := ⟨h.sl.mono hB, h.len, h.nil⟩
theorem own_cells6 {w : World} {base g n cap k : Nat} {l : List Ev} (h : w.ownsRow base 24 6 (.slice (some ⟨g, 0, none⟩) n cap) n (l.flatMap Ev.cs)) (hl : l.length = n) (hk : k < n) :
    ∃ y : Ev, w.cell? ⟨g, k * 6, none⟩ = some (.int .i64 y.d) ∧ w.cell? ⟨g, k * 6 + 1, none⟩ = some (.int .i64 y.k) ∧ w.cell? ⟨g, k * 6 + 2, none⟩ = some (.string y.p) ∧ w.cell? ⟨g, k * 6 + 3, none⟩ = some (.int .i64 y.n) ∧ w.cell? ⟨g, k * 6 + 4, none⟩ = some (.bool y.ps) ∧ w.cell? ⟨g, k * 6 + 5, none⟩ = some (.bool y.gr) := by
  obtain ⟨b, o, y, e, -, -, h0, h1, h2, h3, h4, h5⟩ := (Rws.own h hl).ev hk
  injection e with e
  injection e with e1 e2
  subst e1; subst e2
  simp only [Nat.zero_add] at h0 h1 h2 h3 h4 h5
  exact ⟨y, h0, h1, h2, h3, h4, h5⟩
theorem recErr_small {l : List Ev} (h : recErr l = 0) : l.length ≤ 400 := by
  unfold recErr at h
  split at h
  · cases h
  · omega
set_option maxHeartbeats 2000000 in
theorem accepted_any (A : Option Addr) (n c : Nat) (l : List Ev) (w : World) (h : Rws Ev.cs 6 w w.heap.size A n c l) (hs : n ≤ 400 → ∀ x ∈ l, x.p.size ≤ 30) (ho : ∀ x ∈ l, evOk x) (E : Int) (hE : recErr l = E) :
    Calls Try.prog 43 #[.slice A n c] w fun e w' => Below w.heap.size w w' ∧ e = .returned (.tuple #[if E = 0 then .slice A n c else .slice none 0 0, .int .i64 E]) := by
  have CR : Hid (Calls Try.prog 15 #[.slice A n c] w fun e w' => Below w.heap.size w w' ∧ e = .returned (.int .i64 E)) := Lib.hid (by have := checkRec_all A n c l w h hs ho; rwa [hE] at this)
  clear h hs ho hE
  by_cases h0 : E = 0
  · subst h0
    go_enter Try.func43, Try.ntmps43
    go_wp2_with (go_at_call 15; refine CR.out.mono ?_; rintro e w1 ⟨hb1, rfl⟩; have HB1 := Lib.hid hb1; clear hb1)
    go_ret2
    exact ⟨HB1.out, rfl⟩
  · have h0b : (E != 0) = true := by simpa using h0
    rw [if_neg h0]
    go_enter Try.func43, Try.ntmps43
    go_wp2_with (go_at_call 15; refine CR.out.mono ?_; rintro e w1 ⟨hb1, rfl⟩; have HB1 := Lib.hid hb1; clear hb1)
    go_ret2
    exact ⟨HB1.out, rfl⟩


end Go.Proofs.Ytgjjjnofdjhikaa
