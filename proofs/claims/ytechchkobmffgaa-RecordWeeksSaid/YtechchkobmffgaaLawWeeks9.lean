/- The law RecordWeeks, out of its callees' contracts. -/
import Derived.Test.YtechchkobmffgaaWeeks9
import Derived.Test.YtechchkobmffgaaAwake9
namespace Go.Proofs.Ytechchkobmffgaa
open Go.RowKit

theorem wks_facts (i o l : Int) (h : dayB i = true) (h2 : dayB o = true) (h3 : inR 0 520 l = true) : l ≤ wks i o l ∧ o - i + 1 ≤ 7 * wks i o l ∧ 0 ≤ wks i o l ∧ wks i o l ≤ 2860 ∧ wks i o l ≤ wks i (o + 1) l ∧ wks i (o + 1) l ≤ wks i o l + 1 := by
  have a := dayB_iff.1 h
  have b := dayB_iff.1 h2
  have c := inR_iff.1 h3
  unfold wks
  refine ⟨?_, ?_, ?_, ?_, ?_, ?_⟩ <;> repeat' split <;> omega
set_option maxHeartbeats 2000000 in
theorem lawWeeks_any (i o l : Int) (w : World) : Calls Try.prog 6 #[.int .i64 i, .int .i64 o, .int .i64 l] w fun e w' => Below w.heap.size w w' ∧ e = .returned (.bool true) := by
  obtain ⟨b1, h1⟩ : ∃ b, dayB i = b := ⟨_, rfl⟩
  obtain ⟨b2, h2⟩ : ∃ b, dayB o = b := ⟨_, rfl⟩
  obtain ⟨b3, h3⟩ : ∃ b, inR 0 520 l = b := ⟨_, rfl⟩
  have B1 := Lib.hid h1
  have B2 := Lib.hid h2
  have B3 := Lib.hid h3
  by_cases hall : (b1 && (b2 && b3)) = true
  · obtain ⟨rfl, rfl, rfl⟩ : b1 = true ∧ b2 = true ∧ b3 = true := by simpa using hall
    by_cases hlt : o < i
    · have C1 := Lib.hid (fun W => weeks_ord i o l h1 h2 h3 hlt W)
      have C2 : True := trivial
      have C3 : True := trivial
      clear h1 h2 h3 hall
      (
                go_enter Try.func6, Try.ntmps6
                go_wp2_with (first
      | (go_at_call 11; refine (awake_true _).mono ?_; rintro e w1 ⟨hb1, rfl⟩; have oz1 := hb1.size; (try simp at oz1))
      | (go_at_call 30; with_reducible refine (C1.out _).mono ?_; rintro e w2 ⟨hb2, rfl⟩; have oz2 := hb2.size; (try simp at oz2))
      | (go_at_call 30; with_reducible refine (C2.out _).mono ?_; rintro e w3 ⟨hb3, rfl⟩; have oz3 := hb3.size; (try simp at oz3))
      | (go_at_call 31; with_reducible refine (refIsDay_b B1.out _).mono ?_; rintro e w' ⟨rfl, rfl⟩)
      | (go_at_call 31; with_reducible refine (refIsDay_b B2.out _).mono ?_; rintro e w' ⟨rfl, rfl⟩)
      | (go_at_call 16; with_reducible refine (within_b B3.out _).mono ?_; rintro e w' ⟨rfl, rfl⟩)
      | (go_at_call 32; with_reducible refine (C3.out _).mono ?_; rintro e w' ⟨rfl, rfl⟩))
                go_ret
                exact ⟨(by repeat (first | with_reducible exact Below.refl _ _ | with_reducible assumption | with_reducible refine Below.drew ?_ | with_reducible refine Below.drewN ?_ _ | with_reducible refine Below.alloc2 ?_ _ | with_reducible refine Below.alloc ?_ (by first | omega | (simp <;> omega)) _ | with_reducible refine Below.setCell ?_ (by first | omega | (simp <;> omega)) _ | with_reducible refine Below.step2 (by with_reducible assumption) ?_ | with_reducible refine Below.step (by with_reducible assumption) ?_ (by first | omega | (simp <;> omega)))), rfl⟩)
    · obtain ⟨f1, f2, f3, f4, f5, f6⟩ := wks_facts i o l h1 h2 h3
      have ri := dayB_iff.1 h1
      have ro := dayB_iff.1 h2
      have rl := inR_iff.1 h3
      have C1 := Lib.hid (fun W => weeks_ok i o l h1 h2 h3 hlt W)
      have C3 := Lib.hid (fun W => refWeeks_any i o l ⟨(dayB_iff.1 h1).1, (dayB_iff.1 h2).2, by omega⟩ W)
      by_cases hm : o = 20000
      · subst hm
        have C2 := Lib.hid (fun W => weeks_bad i 20001 l true false true h1 (by decide) h3 rfl W)
        generalize wks i 20000 l = N at *
        clear h1 h2 h3 hall
        (
                  go_enter Try.func6, Try.ntmps6
                  go_wp2_with (first
        | (go_at_call 11; refine (awake_true _).mono ?_; rintro e w1 ⟨hb1, rfl⟩; have oz1 := hb1.size; (try simp at oz1))
        | (go_at_call 30; with_reducible refine (C1.out _).mono ?_; rintro e w2 ⟨hb2, rfl⟩; have oz2 := hb2.size; (try simp at oz2))
        | (go_at_call 30; with_reducible refine (C2.out _).mono ?_; rintro e w3 ⟨hb3, rfl⟩; have oz3 := hb3.size; (try simp at oz3))
        | (go_at_call 31; with_reducible refine (refIsDay_b B1.out _).mono ?_; rintro e w' ⟨rfl, rfl⟩)
        | (go_at_call 31; with_reducible refine (refIsDay_b B2.out _).mono ?_; rintro e w' ⟨rfl, rfl⟩)
        | (go_at_call 16; with_reducible refine (within_b B3.out _).mono ?_; rintro e w' ⟨rfl, rfl⟩)
        | (go_at_call 32; with_reducible refine (C3.out _).mono ?_; rintro e w' ⟨rfl, rfl⟩))
                  go_ret
                  exact ⟨(by repeat (first | with_reducible exact Below.refl _ _ | with_reducible assumption | with_reducible refine Below.drew ?_ | with_reducible refine Below.drewN ?_ _ | with_reducible refine Below.alloc2 ?_ _ | with_reducible refine Below.alloc ?_ (by first | omega | (simp <;> omega)) _ | with_reducible refine Below.setCell ?_ (by first | omega | (simp <;> omega)) _ | with_reducible refine Below.step2 (by with_reducible assumption) ?_ | with_reducible refine Below.step (by with_reducible assumption) ?_ (by first | omega | (simp <;> omega)))), rfl⟩)
      · have C2 := Lib.hid (fun W => weeks_ok i (o + 1) l h1 (dayB_iff.2 (by omega)) h3 (by omega) W)
        generalize wks i o l = N at *
        generalize wks i (o + 1) l = M at *
        clear h1 h2 h3 hall
        (
                  go_enter Try.func6, Try.ntmps6
                  go_wp2_with (first
        | (go_at_call 11; refine (awake_true _).mono ?_; rintro e w1 ⟨hb1, rfl⟩; have oz1 := hb1.size; (try simp at oz1))
        | (go_at_call 30; with_reducible refine (C1.out _).mono ?_; rintro e w2 ⟨hb2, rfl⟩; have oz2 := hb2.size; (try simp at oz2))
        | (go_at_call 30; with_reducible refine (C2.out _).mono ?_; rintro e w3 ⟨hb3, rfl⟩; have oz3 := hb3.size; (try simp at oz3))
        | (go_at_call 31; with_reducible refine (refIsDay_b B1.out _).mono ?_; rintro e w' ⟨rfl, rfl⟩)
        | (go_at_call 31; with_reducible refine (refIsDay_b B2.out _).mono ?_; rintro e w' ⟨rfl, rfl⟩)
        | (go_at_call 16; with_reducible refine (within_b B3.out _).mono ?_; rintro e w' ⟨rfl, rfl⟩)
        | (go_at_call 32; with_reducible refine (C3.out _).mono ?_; rintro e w' ⟨rfl, rfl⟩))
                  go_ret
                  exact ⟨(by repeat (first | with_reducible exact Below.refl _ _ | with_reducible assumption | with_reducible refine Below.drew ?_ | with_reducible refine Below.drewN ?_ _ | with_reducible refine Below.alloc2 ?_ _ | with_reducible refine Below.alloc ?_ (by first | omega | (simp <;> omega)) _ | with_reducible refine Below.setCell ?_ (by first | omega | (simp <;> omega)) _ | with_reducible refine Below.step2 (by with_reducible assumption) ?_ | with_reducible refine Below.step (by with_reducible assumption) ?_ (by first | omega | (simp <;> omega)))), rfl⟩)
  · have C1 := Lib.hid (fun W => weeks_bad i o l b1 b2 b3 h1 h2 h3 (by simpa using hall) W)
    have C2 : True := trivial
    have C3 : True := trivial
    clear h1 h2 h3
    cases b1
    · clear hall
      (
                go_enter Try.func6, Try.ntmps6
                go_wp2_with (first
      | (go_at_call 11; refine (awake_true _).mono ?_; rintro e w1 ⟨hb1, rfl⟩; have oz1 := hb1.size; (try simp at oz1))
      | (go_at_call 30; with_reducible refine (C1.out _).mono ?_; rintro e w2 ⟨hb2, rfl⟩; have oz2 := hb2.size; (try simp at oz2))
      | (go_at_call 30; with_reducible refine (C2.out _).mono ?_; rintro e w3 ⟨hb3, rfl⟩; have oz3 := hb3.size; (try simp at oz3))
      | (go_at_call 31; with_reducible refine (refIsDay_b B1.out _).mono ?_; rintro e w' ⟨rfl, rfl⟩)
      | (go_at_call 31; with_reducible refine (refIsDay_b B2.out _).mono ?_; rintro e w' ⟨rfl, rfl⟩)
      | (go_at_call 16; with_reducible refine (within_b B3.out _).mono ?_; rintro e w' ⟨rfl, rfl⟩)
      | (go_at_call 32; with_reducible refine (C3.out _).mono ?_; rintro e w' ⟨rfl, rfl⟩))
                go_ret
                exact ⟨(by repeat (first | with_reducible exact Below.refl _ _ | with_reducible assumption | with_reducible refine Below.drew ?_ | with_reducible refine Below.drewN ?_ _ | with_reducible refine Below.alloc2 ?_ _ | with_reducible refine Below.alloc ?_ (by first | omega | (simp <;> omega)) _ | with_reducible refine Below.setCell ?_ (by first | omega | (simp <;> omega)) _ | with_reducible refine Below.step2 (by with_reducible assumption) ?_ | with_reducible refine Below.step (by with_reducible assumption) ?_ (by first | omega | (simp <;> omega)))), rfl⟩)
    cases b2
    · clear hall
      (
                go_enter Try.func6, Try.ntmps6
                go_wp2_with (first
      | (go_at_call 11; refine (awake_true _).mono ?_; rintro e w1 ⟨hb1, rfl⟩; have oz1 := hb1.size; (try simp at oz1))
      | (go_at_call 30; with_reducible refine (C1.out _).mono ?_; rintro e w2 ⟨hb2, rfl⟩; have oz2 := hb2.size; (try simp at oz2))
      | (go_at_call 30; with_reducible refine (C2.out _).mono ?_; rintro e w3 ⟨hb3, rfl⟩; have oz3 := hb3.size; (try simp at oz3))
      | (go_at_call 31; with_reducible refine (refIsDay_b B1.out _).mono ?_; rintro e w' ⟨rfl, rfl⟩)
      | (go_at_call 31; with_reducible refine (refIsDay_b B2.out _).mono ?_; rintro e w' ⟨rfl, rfl⟩)
      | (go_at_call 16; with_reducible refine (within_b B3.out _).mono ?_; rintro e w' ⟨rfl, rfl⟩)
      | (go_at_call 32; with_reducible refine (C3.out _).mono ?_; rintro e w' ⟨rfl, rfl⟩))
                go_ret
                exact ⟨(by repeat (first | with_reducible exact Below.refl _ _ | with_reducible assumption | with_reducible refine Below.drew ?_ | with_reducible refine Below.drewN ?_ _ | with_reducible refine Below.alloc2 ?_ _ | with_reducible refine Below.alloc ?_ (by first | omega | (simp <;> omega)) _ | with_reducible refine Below.setCell ?_ (by first | omega | (simp <;> omega)) _ | with_reducible refine Below.step2 (by with_reducible assumption) ?_ | with_reducible refine Below.step (by with_reducible assumption) ?_ (by first | omega | (simp <;> omega)))), rfl⟩)
    cases b3
    · clear hall
      (
                go_enter Try.func6, Try.ntmps6
                go_wp2_with (first
      | (go_at_call 11; refine (awake_true _).mono ?_; rintro e w1 ⟨hb1, rfl⟩; have oz1 := hb1.size; (try simp at oz1))
      | (go_at_call 30; with_reducible refine (C1.out _).mono ?_; rintro e w2 ⟨hb2, rfl⟩; have oz2 := hb2.size; (try simp at oz2))
      | (go_at_call 30; with_reducible refine (C2.out _).mono ?_; rintro e w3 ⟨hb3, rfl⟩; have oz3 := hb3.size; (try simp at oz3))
      | (go_at_call 31; with_reducible refine (refIsDay_b B1.out _).mono ?_; rintro e w' ⟨rfl, rfl⟩)
      | (go_at_call 31; with_reducible refine (refIsDay_b B2.out _).mono ?_; rintro e w' ⟨rfl, rfl⟩)
      | (go_at_call 16; with_reducible refine (within_b B3.out _).mono ?_; rintro e w' ⟨rfl, rfl⟩)
      | (go_at_call 32; with_reducible refine (C3.out _).mono ?_; rintro e w' ⟨rfl, rfl⟩))
                go_ret
                exact ⟨(by repeat (first | with_reducible exact Below.refl _ _ | with_reducible assumption | with_reducible refine Below.drew ?_ | with_reducible refine Below.drewN ?_ _ | with_reducible refine Below.alloc2 ?_ _ | with_reducible refine Below.alloc ?_ (by first | omega | (simp <;> omega)) _ | with_reducible refine Below.setCell ?_ (by first | omega | (simp <;> omega)) _ | with_reducible refine Below.step2 (by with_reducible assumption) ?_ | with_reducible refine Below.step (by with_reducible assumption) ?_ (by first | omega | (simp <;> omega)))), rfl⟩)
    exact absurd rfl hall

end Go.Proofs.Ytechchkobmffgaa
