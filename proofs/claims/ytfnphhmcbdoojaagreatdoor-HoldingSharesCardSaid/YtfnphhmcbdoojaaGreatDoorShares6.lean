/- Chapter 6, walks: Shares. -/
import Derived.Test.YtfnphhmcbdoojaaGreatDoorNear6
import Derived.Test.YtfnphhmcbdoojaaGreatDoorMade6
namespace Go.Proofs.YtfnphhmcbdoojaaGreatDoor
open Go.RowKit

theorem zs_i64s (n : Nat) : zs n = i64s (List.replicate n 0) := by simp [zs, i64s]
theorem info_int : (Tryz.prog.info? 3).map (fun i => (i.zero, i.size, i.bytes)) = some (some (.int .i64 0), 1, 8) := by kernel_rfl
def sharesTo (a lv : List Int) (l : List (Int × Int)) (m k0 : Nat) (wind : List Int) : Nat → List Int
  | 0 => List.replicate k0 0
  | q + 1 => (sharesTo a lv l m k0 wind q).set (nearTo a lv l (((q / m : Nat) : Int), ((q % m : Nat) : Int)) k0) ((sharesTo a lv l m k0 wind q).getD (nearTo a lv l (((q / m : Nat) : Int), ((q % m : Nat) : Int)) k0) 0 + wind.getD q 0)
section
variable {a lv : List Int} {l : List (Int × Int)} {m k0 : Nat} {wind : List Int}
theorem sharesTo_len : ∀ q, (sharesTo a lv l m k0 wind q).length = k0
  | 0 => by simp [sharesTo]
  | q + 1 => by simp [sharesTo, sharesTo_len q]
theorem getD_bd (h : allIn 0 1000000 wind = true) (q : Nat) : 0 ≤ wind.getD q 0 ∧ wind.getD q 0 ≤ 1000000 := by
  rw [List.getD_eq_getElem?_getD]
  cases hq : wind[q]? with
  | none => simp
  | some x =>
    have := List.all_eq_true.1 h x (List.mem_of_getElem? hq)
    simpa using this
theorem sharesTo_bd (h : allIn 0 1000000 wind = true) : ∀ (q r : Nat), 0 ≤ (sharesTo a lv l m k0 wind q).getD r 0 ∧ (sharesTo a lv l m k0 wind q).getD r 0 ≤ (q : Int) * 1000000
  | 0, r => by
    have : (List.replicate k0 (0 : Int)).getD r 0 = 0 := by
      rw [List.getD_eq_getElem?_getD, List.getElem?_replicate]
      split <;> rfl
    simp only [sharesTo]
    rw [this]
    omega
  | q + 1, r => by
    have h1 := sharesTo_bd h q r
    have h2 := sharesTo_bd h q (nearTo a lv l (((q / m : Nat) : Int), ((q % m : Nat) : Int)) k0)
    have h3 := getD_bd h q
    simp only [sharesTo]
    generalize nearTo a lv l (((q / m : Nat) : Int), ((q % m : Nat) : Int)) k0 = j at *
    rw [List.getD_eq_getElem?_getD, List.getElem?_set]
    have e : ((q + 1 : Nat) : Int) * 1000000 = (q : Int) * 1000000 + 1000000 := by omega
    rw [e]
    split
    · split
      · simp only [Option.getD_some]; omega
      · simp only [Option.getD_none]; omega
    · rw [← List.getD_eq_getElem?_getD]; omega
end

/-- The error of a wind by its tests. -/
def windErr (G TE : Int) (bl bw bk : Bool) : Int := if G ≠ 0 then G else if TE ≠ 0 then TE else if bl then (if bw then (if bk then 0 else 27) else 2) else 11
set_option maxHeartbeats 4000000 in
theorem shares_bad (f : Int) (A A2 T V : Option Addr) (n c m c2 k0 ct wn cw : Nat) (G TE : Int) (bw : Bool) (w : World) (c1 : ∀ w', Below w.heap.size w w' → Calls Tryz.prog 13 #[.agg #[.int .i64 f, .slice A n c, .slice A2 m c2]] w' fun e w'' => Below w'.heap.size w' w'' ∧ e = .returned (.int .i64 G))
    (c2' : ∀ w', Below w.heap.size w w' → Calls Tryz.prog 61 #[.agg #[.int .i64 f, .slice A n c, .slice A2 m c2], .slice T k0 ct] w' fun e w'' => Below w'.heap.size w' w'' ∧ e = .returned (.int .i64 TE))
    (c3 : ∀ w', Below w.heap.size w w' → Calls Tryz.prog 56 #[.int .i64 0, .int .i64 1000000, .slice V wn cw] w' fun e w'' => Below w'.heap.size w' w'' ∧ e = .returned (.bool bw))
    (hs : G = 0 → n ≤ 60 ∧ m ≤ 60) (h : windErr G TE (decide (wn = n * m)) bw (decide (1 ≤ k0)) ≠ 0) :
    Calls Tryz.prog 33 #[.agg #[.int .i64 f, .slice A n c, .slice A2 m c2], .slice T k0 ct, .slice V wn cw] w fun e w' => Below w.heap.size w w' ∧ e = .returned (.tuple #[.slice none 0 0, .int .i64 (windErr G TE (decide (wn = n * m)) bw (decide (1 ≤ k0)))]) := by
  have C1 := Lib.hid c1
  have C2 := Lib.hid c2'
  have C3 := Lib.hid c3
  clear c1 c2' c3
  unfold windErr at h ⊢
  by_cases hg : G = 0
  · obtain ⟨hn, hm⟩ := hs hg
    subst hg
    simp only [ne_eq, not_true_eq_false, if_false] at h ⊢
    by_cases ht : TE = 0
    · subst ht
      simp only [not_true_eq_false, if_false] at h ⊢
      obtain ⟨NM, hNM⟩ : ∃ NM, n * m = NM := ⟨_, rfl⟩
      have hle : NM ≤ 60 * 60 := by rw [← hNM]; exact Nat.mul_le_mul hn hm
      have hmul : IntKind.i64.wrap ((n : Int) * (m : Int)) = (NM : Int) := by
        have : (n : Int) * (m : Int) = (NM : Int) := by exact_mod_cast hNM
        rw [this]; exact IntWalk.i64_in _ (by omega)
      rw [hNM] at h ⊢
      clear hs hNM
      by_cases hl : wn = NM
      · have hl1 : ((wn : Int) != (NM : Int)) = false := by simp [hl]
        have hl2 : (wn != NM) = false := by simp [hl]
        rw [decide_eq_true hl] at h ⊢
        simp only [if_true] at h ⊢
        clear hl
        cases bw
        · clear h
          (
              go_enter Tryz.func33, Tryz.ntmps33
              go_wp2_with (first
          | (go_at_call 13; with_reducible refine (C1.out _ ?_).mono ?_; (focus (exact (by repeat (first | with_reducible exact Below.refl _ _ | with_reducible assumption | with_reducible refine Below.drew ?_ | with_reducible refine Below.drewN ?_ _ | with_reducible refine Below.alloc2 ?_ _ | with_reducible refine Below.alloc ?_ (by first | omega | (simp <;> omega)) _ | with_reducible refine Below.setCell ?_ (by first | omega | (simp <;> omega)) _ | with_reducible refine Below.step2 (by with_reducible assumption) ?_ | with_reducible refine Below.step (by with_reducible assumption) ?_ (by first | omega | (simp <;> omega)))))); rintro e w1 ⟨hb1, rfl⟩; have kg : Bk w1 w.heap.size 24 #[.int .i64 f, .slice A n c, .slice A2 m c2] := (by repeat (first | with_reducible assumption | with_reducible exact Bk.at_ (by first | (simp; done) | omega) | with_reducible refine Bk.alloc ?_ _ | with_reducible refine Bk.drew ?_ | with_reducible refine Bk.drewN ?_ _ | with_reducible refine Bk.step (by with_reducible assumption) ?_ (by first | omega | (simp <;> omega)))); obtain ⟨⟨g0, g1, g2⟩, -⟩ := kg.three; have oz1 := hb1.size; (try simp at oz1))
          | (go_at_call 61; with_reducible refine (C2.out _ ?_).mono ?_; (focus (exact (by repeat (first | with_reducible exact Below.refl _ _ | with_reducible assumption | with_reducible refine Below.drew ?_ | with_reducible refine Below.drewN ?_ _ | with_reducible refine Below.alloc2 ?_ _ | with_reducible refine Below.alloc ?_ (by first | omega | (simp <;> omega)) _ | with_reducible refine Below.setCell ?_ (by first | omega | (simp <;> omega)) _ | with_reducible refine Below.step2 (by with_reducible assumption) ?_ | with_reducible refine Below.step (by with_reducible assumption) ?_ (by first | omega | (simp <;> omega)))))); rintro e w1 ⟨hb1, rfl⟩; have kg : Bk w1 w.heap.size 24 #[.int .i64 f, .slice A n c, .slice A2 m c2] := (by repeat (first | with_reducible assumption | with_reducible exact Bk.at_ (by first | (simp; done) | omega) | with_reducible refine Bk.alloc ?_ _ | with_reducible refine Bk.drew ?_ | with_reducible refine Bk.drewN ?_ _ | with_reducible refine Bk.step (by with_reducible assumption) ?_ (by first | omega | (simp <;> omega)))); obtain ⟨⟨g0, g1, g2⟩, -⟩ := kg.three; have oz1 := hb1.size; (try simp at oz1))
          | (go_at_call 56; with_reducible refine (C3.out _ ?_).mono ?_; (focus (exact (by repeat (first | with_reducible exact Below.refl _ _ | with_reducible assumption | with_reducible refine Below.drew ?_ | with_reducible refine Below.drewN ?_ _ | with_reducible refine Below.alloc2 ?_ _ | with_reducible refine Below.alloc ?_ (by first | omega | (simp <;> omega)) _ | with_reducible refine Below.setCell ?_ (by first | omega | (simp <;> omega)) _ | with_reducible refine Below.step2 (by with_reducible assumption) ?_ | with_reducible refine Below.step (by with_reducible assumption) ?_ (by first | omega | (simp <;> omega)))))); rintro e w1 ⟨hb1, rfl⟩; have kg : Bk w1 w.heap.size 24 #[.int .i64 f, .slice A n c, .slice A2 m c2] := (by repeat (first | with_reducible assumption | with_reducible exact Bk.at_ (by first | (simp; done) | omega) | with_reducible refine Bk.alloc ?_ _ | with_reducible refine Bk.drew ?_ | with_reducible refine Bk.drewN ?_ _ | with_reducible refine Bk.step (by with_reducible assumption) ?_ (by first | omega | (simp <;> omega)))); obtain ⟨⟨g0, g1, g2⟩, -⟩ := kg.three; have oz1 := hb1.size; (try simp at oz1)))
              refine bodyPost_ret (results_tmp2 rfl _ _ _) rfl ?_
              exact ⟨(by repeat (first | with_reducible exact Below.refl _ _ | with_reducible assumption | with_reducible refine Below.drew ?_ | with_reducible refine Below.drewN ?_ _ | with_reducible refine Below.alloc2 ?_ _ | with_reducible refine Below.alloc ?_ (by first | omega | (simp <;> omega)) _ | with_reducible refine Below.setCell ?_ (by first | omega | (simp <;> omega)) _ | with_reducible refine Below.step2 (by with_reducible assumption) ?_ | with_reducible refine Below.step (by with_reducible assumption) ?_ (by first | omega | (simp <;> omega)))), rfl⟩)
        · by_cases hk : 1 ≤ k0
          · rw [decide_eq_true hk] at h
            exact absurd rfl h
          · obtain rfl : k0 = 0 := by omega
            clear h hk
            (
                go_enter Tryz.func33, Tryz.ntmps33
                go_wp2_with (first
            | (go_at_call 13; with_reducible refine (C1.out _ ?_).mono ?_; (focus (exact (by repeat (first | with_reducible exact Below.refl _ _ | with_reducible assumption | with_reducible refine Below.drew ?_ | with_reducible refine Below.drewN ?_ _ | with_reducible refine Below.alloc2 ?_ _ | with_reducible refine Below.alloc ?_ (by first | omega | (simp <;> omega)) _ | with_reducible refine Below.setCell ?_ (by first | omega | (simp <;> omega)) _ | with_reducible refine Below.step2 (by with_reducible assumption) ?_ | with_reducible refine Below.step (by with_reducible assumption) ?_ (by first | omega | (simp <;> omega)))))); rintro e w1 ⟨hb1, rfl⟩; have kg : Bk w1 w.heap.size 24 #[.int .i64 f, .slice A n c, .slice A2 m c2] := (by repeat (first | with_reducible assumption | with_reducible exact Bk.at_ (by first | (simp; done) | omega) | with_reducible refine Bk.alloc ?_ _ | with_reducible refine Bk.drew ?_ | with_reducible refine Bk.drewN ?_ _ | with_reducible refine Bk.step (by with_reducible assumption) ?_ (by first | omega | (simp <;> omega)))); obtain ⟨⟨g0, g1, g2⟩, -⟩ := kg.three; have oz1 := hb1.size; (try simp at oz1))
            | (go_at_call 61; with_reducible refine (C2.out _ ?_).mono ?_; (focus (exact (by repeat (first | with_reducible exact Below.refl _ _ | with_reducible assumption | with_reducible refine Below.drew ?_ | with_reducible refine Below.drewN ?_ _ | with_reducible refine Below.alloc2 ?_ _ | with_reducible refine Below.alloc ?_ (by first | omega | (simp <;> omega)) _ | with_reducible refine Below.setCell ?_ (by first | omega | (simp <;> omega)) _ | with_reducible refine Below.step2 (by with_reducible assumption) ?_ | with_reducible refine Below.step (by with_reducible assumption) ?_ (by first | omega | (simp <;> omega)))))); rintro e w1 ⟨hb1, rfl⟩; have kg : Bk w1 w.heap.size 24 #[.int .i64 f, .slice A n c, .slice A2 m c2] := (by repeat (first | with_reducible assumption | with_reducible exact Bk.at_ (by first | (simp; done) | omega) | with_reducible refine Bk.alloc ?_ _ | with_reducible refine Bk.drew ?_ | with_reducible refine Bk.drewN ?_ _ | with_reducible refine Bk.step (by with_reducible assumption) ?_ (by first | omega | (simp <;> omega)))); obtain ⟨⟨g0, g1, g2⟩, -⟩ := kg.three; have oz1 := hb1.size; (try simp at oz1))
            | (go_at_call 56; with_reducible refine (C3.out _ ?_).mono ?_; (focus (exact (by repeat (first | with_reducible exact Below.refl _ _ | with_reducible assumption | with_reducible refine Below.drew ?_ | with_reducible refine Below.drewN ?_ _ | with_reducible refine Below.alloc2 ?_ _ | with_reducible refine Below.alloc ?_ (by first | omega | (simp <;> omega)) _ | with_reducible refine Below.setCell ?_ (by first | omega | (simp <;> omega)) _ | with_reducible refine Below.step2 (by with_reducible assumption) ?_ | with_reducible refine Below.step (by with_reducible assumption) ?_ (by first | omega | (simp <;> omega)))))); rintro e w1 ⟨hb1, rfl⟩; have kg : Bk w1 w.heap.size 24 #[.int .i64 f, .slice A n c, .slice A2 m c2] := (by repeat (first | with_reducible assumption | with_reducible exact Bk.at_ (by first | (simp; done) | omega) | with_reducible refine Bk.alloc ?_ _ | with_reducible refine Bk.drew ?_ | with_reducible refine Bk.drewN ?_ _ | with_reducible refine Bk.step (by with_reducible assumption) ?_ (by first | omega | (simp <;> omega)))); obtain ⟨⟨g0, g1, g2⟩, -⟩ := kg.three; have oz1 := hb1.size; (try simp at oz1)))
                refine bodyPost_ret (results_tmp2 rfl _ _ _) rfl ?_
                exact ⟨(by repeat (first | with_reducible exact Below.refl _ _ | with_reducible assumption | with_reducible refine Below.drew ?_ | with_reducible refine Below.drewN ?_ _ | with_reducible refine Below.alloc2 ?_ _ | with_reducible refine Below.alloc ?_ (by first | omega | (simp <;> omega)) _ | with_reducible refine Below.setCell ?_ (by first | omega | (simp <;> omega)) _ | with_reducible refine Below.step2 (by with_reducible assumption) ?_ | with_reducible refine Below.step (by with_reducible assumption) ?_ (by first | omega | (simp <;> omega)))), rfl⟩)
      · have hl1 : ((wn : Int) != (NM : Int)) = true := by simp; omega
        have hl2 : (wn != NM) = true := by simpa using hl
        rw [decide_eq_false hl] at h ⊢
        clear h hl
        (
            go_enter Tryz.func33, Tryz.ntmps33
            go_wp2_with (first
        | (go_at_call 13; with_reducible refine (C1.out _ ?_).mono ?_; (focus (exact (by repeat (first | with_reducible exact Below.refl _ _ | with_reducible assumption | with_reducible refine Below.drew ?_ | with_reducible refine Below.drewN ?_ _ | with_reducible refine Below.alloc2 ?_ _ | with_reducible refine Below.alloc ?_ (by first | omega | (simp <;> omega)) _ | with_reducible refine Below.setCell ?_ (by first | omega | (simp <;> omega)) _ | with_reducible refine Below.step2 (by with_reducible assumption) ?_ | with_reducible refine Below.step (by with_reducible assumption) ?_ (by first | omega | (simp <;> omega)))))); rintro e w1 ⟨hb1, rfl⟩; have kg : Bk w1 w.heap.size 24 #[.int .i64 f, .slice A n c, .slice A2 m c2] := (by repeat (first | with_reducible assumption | with_reducible exact Bk.at_ (by first | (simp; done) | omega) | with_reducible refine Bk.alloc ?_ _ | with_reducible refine Bk.drew ?_ | with_reducible refine Bk.drewN ?_ _ | with_reducible refine Bk.step (by with_reducible assumption) ?_ (by first | omega | (simp <;> omega)))); obtain ⟨⟨g0, g1, g2⟩, -⟩ := kg.three; have oz1 := hb1.size; (try simp at oz1))
        | (go_at_call 61; with_reducible refine (C2.out _ ?_).mono ?_; (focus (exact (by repeat (first | with_reducible exact Below.refl _ _ | with_reducible assumption | with_reducible refine Below.drew ?_ | with_reducible refine Below.drewN ?_ _ | with_reducible refine Below.alloc2 ?_ _ | with_reducible refine Below.alloc ?_ (by first | omega | (simp <;> omega)) _ | with_reducible refine Below.setCell ?_ (by first | omega | (simp <;> omega)) _ | with_reducible refine Below.step2 (by with_reducible assumption) ?_ | with_reducible refine Below.step (by with_reducible assumption) ?_ (by first | omega | (simp <;> omega)))))); rintro e w1 ⟨hb1, rfl⟩; have kg : Bk w1 w.heap.size 24 #[.int .i64 f, .slice A n c, .slice A2 m c2] := (by repeat (first | with_reducible assumption | with_reducible exact Bk.at_ (by first | (simp; done) | omega) | with_reducible refine Bk.alloc ?_ _ | with_reducible refine Bk.drew ?_ | with_reducible refine Bk.drewN ?_ _ | with_reducible refine Bk.step (by with_reducible assumption) ?_ (by first | omega | (simp <;> omega)))); obtain ⟨⟨g0, g1, g2⟩, -⟩ := kg.three; have oz1 := hb1.size; (try simp at oz1))
        | (go_at_call 56; with_reducible refine (C3.out _ ?_).mono ?_; (focus (exact (by repeat (first | with_reducible exact Below.refl _ _ | with_reducible assumption | with_reducible refine Below.drew ?_ | with_reducible refine Below.drewN ?_ _ | with_reducible refine Below.alloc2 ?_ _ | with_reducible refine Below.alloc ?_ (by first | omega | (simp <;> omega)) _ | with_reducible refine Below.setCell ?_ (by first | omega | (simp <;> omega)) _ | with_reducible refine Below.step2 (by with_reducible assumption) ?_ | with_reducible refine Below.step (by with_reducible assumption) ?_ (by first | omega | (simp <;> omega)))))); rintro e w1 ⟨hb1, rfl⟩; have kg : Bk w1 w.heap.size 24 #[.int .i64 f, .slice A n c, .slice A2 m c2] := (by repeat (first | with_reducible assumption | with_reducible exact Bk.at_ (by first | (simp; done) | omega) | with_reducible refine Bk.alloc ?_ _ | with_reducible refine Bk.drew ?_ | with_reducible refine Bk.drewN ?_ _ | with_reducible refine Bk.step (by with_reducible assumption) ?_ (by first | omega | (simp <;> omega)))); obtain ⟨⟨g0, g1, g2⟩, -⟩ := kg.three; have oz1 := hb1.size; (try simp at oz1)))
            refine bodyPost_ret (results_tmp2 rfl _ _ _) rfl ?_
            exact ⟨(by repeat (first | with_reducible exact Below.refl _ _ | with_reducible assumption | with_reducible refine Below.drew ?_ | with_reducible refine Below.drewN ?_ _ | with_reducible refine Below.alloc2 ?_ _ | with_reducible refine Below.alloc ?_ (by first | omega | (simp <;> omega)) _ | with_reducible refine Below.setCell ?_ (by first | omega | (simp <;> omega)) _ | with_reducible refine Below.step2 (by with_reducible assumption) ?_ | with_reducible refine Below.step (by with_reducible assumption) ?_ (by first | omega | (simp <;> omega)))), rfl⟩)
    · have htb : (TE != 0) = true := by simpa using ht
      simp only [ht, not_false_eq_true, if_true] at h ⊢
      clear h hs
      (
          go_enter Tryz.func33, Tryz.ntmps33
          go_wp2_with (first
      | (go_at_call 13; with_reducible refine (C1.out _ ?_).mono ?_; (focus (exact (by repeat (first | with_reducible exact Below.refl _ _ | with_reducible assumption | with_reducible refine Below.drew ?_ | with_reducible refine Below.drewN ?_ _ | with_reducible refine Below.alloc2 ?_ _ | with_reducible refine Below.alloc ?_ (by first | omega | (simp <;> omega)) _ | with_reducible refine Below.setCell ?_ (by first | omega | (simp <;> omega)) _ | with_reducible refine Below.step2 (by with_reducible assumption) ?_ | with_reducible refine Below.step (by with_reducible assumption) ?_ (by first | omega | (simp <;> omega)))))); rintro e w1 ⟨hb1, rfl⟩; have kg : Bk w1 w.heap.size 24 #[.int .i64 f, .slice A n c, .slice A2 m c2] := (by repeat (first | with_reducible assumption | with_reducible exact Bk.at_ (by first | (simp; done) | omega) | with_reducible refine Bk.alloc ?_ _ | with_reducible refine Bk.drew ?_ | with_reducible refine Bk.drewN ?_ _ | with_reducible refine Bk.step (by with_reducible assumption) ?_ (by first | omega | (simp <;> omega)))); obtain ⟨⟨g0, g1, g2⟩, -⟩ := kg.three; have oz1 := hb1.size; (try simp at oz1))
      | (go_at_call 61; with_reducible refine (C2.out _ ?_).mono ?_; (focus (exact (by repeat (first | with_reducible exact Below.refl _ _ | with_reducible assumption | with_reducible refine Below.drew ?_ | with_reducible refine Below.drewN ?_ _ | with_reducible refine Below.alloc2 ?_ _ | with_reducible refine Below.alloc ?_ (by first | omega | (simp <;> omega)) _ | with_reducible refine Below.setCell ?_ (by first | omega | (simp <;> omega)) _ | with_reducible refine Below.step2 (by with_reducible assumption) ?_ | with_reducible refine Below.step (by with_reducible assumption) ?_ (by first | omega | (simp <;> omega)))))); rintro e w1 ⟨hb1, rfl⟩; have kg : Bk w1 w.heap.size 24 #[.int .i64 f, .slice A n c, .slice A2 m c2] := (by repeat (first | with_reducible assumption | with_reducible exact Bk.at_ (by first | (simp; done) | omega) | with_reducible refine Bk.alloc ?_ _ | with_reducible refine Bk.drew ?_ | with_reducible refine Bk.drewN ?_ _ | with_reducible refine Bk.step (by with_reducible assumption) ?_ (by first | omega | (simp <;> omega)))); obtain ⟨⟨g0, g1, g2⟩, -⟩ := kg.three; have oz1 := hb1.size; (try simp at oz1))
      | (go_at_call 56; with_reducible refine (C3.out _ ?_).mono ?_; (focus (exact (by repeat (first | with_reducible exact Below.refl _ _ | with_reducible assumption | with_reducible refine Below.drew ?_ | with_reducible refine Below.drewN ?_ _ | with_reducible refine Below.alloc2 ?_ _ | with_reducible refine Below.alloc ?_ (by first | omega | (simp <;> omega)) _ | with_reducible refine Below.setCell ?_ (by first | omega | (simp <;> omega)) _ | with_reducible refine Below.step2 (by with_reducible assumption) ?_ | with_reducible refine Below.step (by with_reducible assumption) ?_ (by first | omega | (simp <;> omega)))))); rintro e w1 ⟨hb1, rfl⟩; have kg : Bk w1 w.heap.size 24 #[.int .i64 f, .slice A n c, .slice A2 m c2] := (by repeat (first | with_reducible assumption | with_reducible exact Bk.at_ (by first | (simp; done) | omega) | with_reducible refine Bk.alloc ?_ _ | with_reducible refine Bk.drew ?_ | with_reducible refine Bk.drewN ?_ _ | with_reducible refine Bk.step (by with_reducible assumption) ?_ (by first | omega | (simp <;> omega)))); obtain ⟨⟨g0, g1, g2⟩, -⟩ := kg.three; have oz1 := hb1.size; (try simp at oz1)))
          refine bodyPost_ret (results_tmp2 rfl _ _ _) rfl ?_
          exact ⟨(by repeat (first | with_reducible exact Below.refl _ _ | with_reducible assumption | with_reducible refine Below.drew ?_ | with_reducible refine Below.drewN ?_ _ | with_reducible refine Below.alloc2 ?_ _ | with_reducible refine Below.alloc ?_ (by first | omega | (simp <;> omega)) _ | with_reducible refine Below.setCell ?_ (by first | omega | (simp <;> omega)) _ | with_reducible refine Below.step2 (by with_reducible assumption) ?_ | with_reducible refine Below.step (by with_reducible assumption) ?_ (by first | omega | (simp <;> omega)))), rfl⟩)
  · have hgb : (G != 0) = true := by simpa using hg
    simp only [ne_eq, hg, not_false_eq_true, if_true] at h ⊢
    clear h hs
    (
        go_enter Tryz.func33, Tryz.ntmps33
        go_wp2_with (first
    | (go_at_call 13; with_reducible refine (C1.out _ ?_).mono ?_; (focus (exact (by repeat (first | with_reducible exact Below.refl _ _ | with_reducible assumption | with_reducible refine Below.drew ?_ | with_reducible refine Below.drewN ?_ _ | with_reducible refine Below.alloc2 ?_ _ | with_reducible refine Below.alloc ?_ (by first | omega | (simp <;> omega)) _ | with_reducible refine Below.setCell ?_ (by first | omega | (simp <;> omega)) _ | with_reducible refine Below.step2 (by with_reducible assumption) ?_ | with_reducible refine Below.step (by with_reducible assumption) ?_ (by first | omega | (simp <;> omega)))))); rintro e w1 ⟨hb1, rfl⟩; have kg : Bk w1 w.heap.size 24 #[.int .i64 f, .slice A n c, .slice A2 m c2] := (by repeat (first | with_reducible assumption | with_reducible exact Bk.at_ (by first | (simp; done) | omega) | with_reducible refine Bk.alloc ?_ _ | with_reducible refine Bk.drew ?_ | with_reducible refine Bk.drewN ?_ _ | with_reducible refine Bk.step (by with_reducible assumption) ?_ (by first | omega | (simp <;> omega)))); obtain ⟨⟨g0, g1, g2⟩, -⟩ := kg.three; have oz1 := hb1.size; (try simp at oz1))
    | (go_at_call 61; with_reducible refine (C2.out _ ?_).mono ?_; (focus (exact (by repeat (first | with_reducible exact Below.refl _ _ | with_reducible assumption | with_reducible refine Below.drew ?_ | with_reducible refine Below.drewN ?_ _ | with_reducible refine Below.alloc2 ?_ _ | with_reducible refine Below.alloc ?_ (by first | omega | (simp <;> omega)) _ | with_reducible refine Below.setCell ?_ (by first | omega | (simp <;> omega)) _ | with_reducible refine Below.step2 (by with_reducible assumption) ?_ | with_reducible refine Below.step (by with_reducible assumption) ?_ (by first | omega | (simp <;> omega)))))); rintro e w1 ⟨hb1, rfl⟩; have kg : Bk w1 w.heap.size 24 #[.int .i64 f, .slice A n c, .slice A2 m c2] := (by repeat (first | with_reducible assumption | with_reducible exact Bk.at_ (by first | (simp; done) | omega) | with_reducible refine Bk.alloc ?_ _ | with_reducible refine Bk.drew ?_ | with_reducible refine Bk.drewN ?_ _ | with_reducible refine Bk.step (by with_reducible assumption) ?_ (by first | omega | (simp <;> omega)))); obtain ⟨⟨g0, g1, g2⟩, -⟩ := kg.three; have oz1 := hb1.size; (try simp at oz1))
    | (go_at_call 56; with_reducible refine (C3.out _ ?_).mono ?_; (focus (exact (by repeat (first | with_reducible exact Below.refl _ _ | with_reducible assumption | with_reducible refine Below.drew ?_ | with_reducible refine Below.drewN ?_ _ | with_reducible refine Below.alloc2 ?_ _ | with_reducible refine Below.alloc ?_ (by first | omega | (simp <;> omega)) _ | with_reducible refine Below.setCell ?_ (by first | omega | (simp <;> omega)) _ | with_reducible refine Below.step2 (by with_reducible assumption) ?_ | with_reducible refine Below.step (by with_reducible assumption) ?_ (by first | omega | (simp <;> omega)))))); rintro e w1 ⟨hb1, rfl⟩; have kg : Bk w1 w.heap.size 24 #[.int .i64 f, .slice A n c, .slice A2 m c2] := (by repeat (first | with_reducible assumption | with_reducible exact Bk.at_ (by first | (simp; done) | omega) | with_reducible refine Bk.alloc ?_ _ | with_reducible refine Bk.drew ?_ | with_reducible refine Bk.drewN ?_ _ | with_reducible refine Bk.step (by with_reducible assumption) ?_ (by first | omega | (simp <;> omega)))); obtain ⟨⟨g0, g1, g2⟩, -⟩ := kg.three; have oz1 := hb1.size; (try simp at oz1)))
        refine bodyPost_ret (results_tmp2 rfl _ _ _) rfl ?_
        exact ⟨(by repeat (first | with_reducible exact Below.refl _ _ | with_reducible assumption | with_reducible refine Below.drew ?_ | with_reducible refine Below.drewN ?_ _ | with_reducible refine Below.alloc2 ?_ _ | with_reducible refine Below.alloc ?_ (by first | omega | (simp <;> omega)) _ | with_reducible refine Below.setCell ?_ (by first | omega | (simp <;> omega)) _ | with_reducible refine Below.step2 (by with_reducible assumption) ?_ | with_reducible refine Below.step (by with_reducible assumption) ?_ (by first | omega | (simp <;> omega)))), rfl⟩)

set_option maxRecDepth 100000 in
set_option maxHeartbeats 8000000 in
theorem shares_ok (f : Int) (A A2 T V : Option Addr) (n c m c2 k0 ct wn cw : Nat) (a lv wind : List Int) (l : List (Int × Int)) (w : World) (ha : Nums w w.heap.size A n c a) (hl : Nums w w.heap.size A2 m c2 lv) (ht : Pts w w.heap.size T k0 ct l) (hv : Nums w w.heap.size V wn cw wind)
    (hn : n ≤ 60) (hm1 : 1 ≤ m) (hm : m ≤ 60) (hk0 : 1 ≤ k0) (hk : k0 ≤ 1800) (hwn : wn = n * m) (ba : allIn (-1000000) 1000000 a = true) (bl : allIn 1 1000000 lv = true) (bw : allIn 0 1000000 wind = true) (hin : l.any (fun t => !tieIn n m t) = false)
    (c1 : ∀ w', Below w.heap.size w w' → Calls Tryz.prog 13 #[.agg #[.int .i64 f, .slice A n c, .slice A2 m c2]] w' fun e w'' => Below w'.heap.size w' w'' ∧ e = .returned (.int .i64 0))
    (c2' : ∀ w', Below w.heap.size w w' → Calls Tryz.prog 61 #[.agg #[.int .i64 f, .slice A n c, .slice A2 m c2], .slice T k0 ct] w' fun e w'' => Below w'.heap.size w' w'' ∧ e = .returned (.int .i64 0))
    (c3 : ∀ w', Below w.heap.size w w' → Calls Tryz.prog 56 #[.int .i64 0, .int .i64 1000000, .slice V wn cw] w' fun e w'' => Below w'.heap.size w' w'' ∧ e = .returned (.bool true)) :
    Calls Tryz.prog 33 #[.agg #[.int .i64 f, .slice A n c, .slice A2 m c2], .slice T k0 ct, .slice V wn cw] w fun e w' => Below w.heap.size w w' ∧ ∃ g, e = .returned (.tuple #[.slice (some ⟨g, 0, none⟩) k0 k0, .int .i64 0]) ∧ Nums w' w'.heap.size (some ⟨g, 0, none⟩) k0 k0 (sharesTo a lv l m k0 wind wn) := by
  have C1 := Lib.hid c1
  have C2 := Lib.hid c2'
  have C3 := Lib.hid c3
  have HLEN := Lib.hid ht.len
  have hcapv := hv.cap
  have hmaxv := hv.max
  have HV0 : Hid (∀ w', Below w.heap.size w w' → Nums w' w.heap.size V wn cw wind) := fun w' hb => hv.below hb (Nat.le_refl _) (Nat.le_refl _)
  have HNR : Hid (∀ (u1 u2 : Nat), u1 < n → u2 < m → ∀ w', Below w.heap.size w w' → Calls Tryz.prog 69 #[.agg #[.int .i64 f, .slice A n c, .slice A2 m c2], .slice T k0 ct, .agg #[.int .i64 (u1 : Int), .int .i64 (u2 : Int)]] w' fun e w'' => Below w'.heap.size w' w'' ∧ e = .returned (.int .i64 (nearTo a lv l ((u1 : Int), (u2 : Int)) k0 : Nat))) :=
    Lib.hid fun u1 u2 q1 q2 w' hb => nearest_any f A A2 T n c m c2 k0 ct u1 u2 a lv l w' (ha.below hb (Nat.le_refl _) hb.size) (hl.below hb (Nat.le_refl _) hb.size) (ht.below hb (Nat.le_refl _) hb.size) q1 q2 ba bl hk0 hin
  have HBD := Lib.hid (fun q r => sharesTo_bd (a := a) (lv := lv) (l := l) (m := m) (k0 := k0) bw q r)
  have HFB := Lib.hid (fun q => getD_bd bw q)
  have hmul : IntKind.i64.wrap ((n : Int) * (m : Int)) = (wn : Int) := by
    have : (n : Int) * (m : Int) = (wn : Int) := by exact_mod_cast hwn.symm
    have hle : n * m ≤ 60 * 60 := Nat.mul_le_mul hn hm
    rw [this]; exact IntWalk.i64_in _ (by omega)
  have hwle : wn ≤ 3600 := by have : n * m ≤ 60 * 60 := Nat.mul_le_mul hn hm; omega
  have HWN := Lib.hid hwn
  obtain ⟨i0, hi, hz0, hz1, hz2⟩ := info_parts info_int
  have hmk := make_any (P := Tryz.prog) 22 3 i0 _ Tryz.underlying22 hi hz0 hz1 rfl (by omega) k0 (by rw [hz2]; omega) (by omega)
  rw [Nat.mul_one] at hmk
  have hm0 : ((m : Int) == 0) = false := by simp; omega
  have hm00 : ¬ (m : Int) = 0 := by omega
  have hm01 : ¬ m = 0 := by omega
  have hm02 : (m == 0) = false := by simpa using hm01
  have hkb : ((k0 : Int) == 0) = false := by simp; omega
  clear hi hz0 hz1 hz2 c1 c2' c3 ha hl ht hv ba bl bw hin hwn
  go_enter Tryz.func33, Tryz.ntmps33
  go_wp2_with (first
        | (go_at_call 13; with_reducible refine (C1.out _ ?_).mono ?_; (focus (exact (by repeat (first | with_reducible exact Below.refl _ _ | with_reducible assumption | with_reducible refine Below.drew ?_ | with_reducible refine Below.drewN ?_ _ | with_reducible refine Below.alloc2 ?_ _ | with_reducible refine Below.alloc ?_ (by first | omega | (simp <;> omega)) _ | with_reducible refine Below.setCell ?_ (by first | omega | (simp <;> omega)) _ | with_reducible refine Below.step2 (by with_reducible assumption) ?_ | with_reducible refine Below.step (by with_reducible assumption) ?_ (by first | omega | (simp <;> omega)))))); rintro e w1 ⟨hb1, rfl⟩; have kg : Bk w1 w.heap.size 24 #[.int .i64 f, .slice A n c, .slice A2 m c2] := (by repeat (first | with_reducible assumption | with_reducible exact Bk.at_ (by first | (simp; done) | omega) | with_reducible refine Bk.alloc ?_ _ | with_reducible refine Bk.drew ?_ | with_reducible refine Bk.drewN ?_ _ | with_reducible refine Bk.step (by with_reducible assumption) ?_ (by first | omega | (simp <;> omega)))); obtain ⟨⟨g0, g1, g2⟩, -⟩ := kg.three; have oz1 := hb1.size; (try simp at oz1))
        | (go_at_call 61; with_reducible refine (C2.out _ ?_).mono ?_; (focus (exact (by repeat (first | with_reducible exact Below.refl _ _ | with_reducible assumption | with_reducible refine Below.drew ?_ | with_reducible refine Below.drewN ?_ _ | with_reducible refine Below.alloc2 ?_ _ | with_reducible refine Below.alloc ?_ (by first | omega | (simp <;> omega)) _ | with_reducible refine Below.setCell ?_ (by first | omega | (simp <;> omega)) _ | with_reducible refine Below.step2 (by with_reducible assumption) ?_ | with_reducible refine Below.step (by with_reducible assumption) ?_ (by first | omega | (simp <;> omega)))))); rintro e w1 ⟨hb1, rfl⟩; have kg : Bk w1 w.heap.size 24 #[.int .i64 f, .slice A n c, .slice A2 m c2] := (by repeat (first | with_reducible assumption | with_reducible exact Bk.at_ (by first | (simp; done) | omega) | with_reducible refine Bk.alloc ?_ _ | with_reducible refine Bk.drew ?_ | with_reducible refine Bk.drewN ?_ _ | with_reducible refine Bk.step (by with_reducible assumption) ?_ (by first | omega | (simp <;> omega)))); obtain ⟨⟨g0, g1, g2⟩, -⟩ := kg.three; have oz1 := hb1.size; (try simp at oz1))
        | (go_at_call 56; with_reducible refine (C3.out _ ?_).mono ?_; (focus (exact (by repeat (first | with_reducible exact Below.refl _ _ | with_reducible assumption | with_reducible refine Below.drew ?_ | with_reducible refine Below.drewN ?_ _ | with_reducible refine Below.alloc2 ?_ _ | with_reducible refine Below.alloc ?_ (by first | omega | (simp <;> omega)) _ | with_reducible refine Below.setCell ?_ (by first | omega | (simp <;> omega)) _ | with_reducible refine Below.step2 (by with_reducible assumption) ?_ | with_reducible refine Below.step (by with_reducible assumption) ?_ (by first | omega | (simp <;> omega)))))); rintro e w3 ⟨hb1, rfl⟩; have kg : Bk w3 w.heap.size 24 #[.int .i64 f, .slice A n c, .slice A2 m c2] := (by repeat (first | with_reducible assumption | with_reducible exact Bk.at_ (by first | (simp; done) | omega) | with_reducible refine Bk.alloc ?_ _ | with_reducible refine Bk.drew ?_ | with_reducible refine Bk.drewN ?_ _ | with_reducible refine Bk.step (by with_reducible assumption) ?_ (by first | omega | (simp <;> omega)))); obtain ⟨⟨g0, g1, g2⟩, -⟩ := kg.three; have oz1 := hb1.size; (try simp at oz1); have HB3 : Hid (Below w.heap.size w w3) := Lib.hid (by exact (by repeat (first | with_reducible exact Below.refl _ _ | with_reducible assumption | with_reducible refine Below.drew ?_ | with_reducible refine Below.drewN ?_ _ | with_reducible refine Below.alloc2 ?_ _ | with_reducible refine Below.alloc ?_ (by first | omega | (simp <;> omega)) _ | with_reducible refine Below.setCell ?_ (by first | omega | (simp <;> omega)) _ | with_reducible refine Below.step2 (by with_reducible assumption) ?_ | with_reducible refine Below.step (by with_reducible assumption) ?_ (by first | omega | (simp <;> omega))))); have HKG3 := Lib.hid kg))
  have hw3 := HB3.out.size
  have ogw := HKG3.out.lt
  have HZ : Hid (Bk (w3.alloc (.cells (zs k0).toArray 3)) w3.heap.size 3 (i64s (sharesTo a lv l m k0 wind 0)).toArray) := Lib.hid (by rw [zs_i64s]; exact Bk.alloc_ _ _ _)
  clear hmk
  go_loopw [11, 12, 13, 49] (fun _ _ _ i wr => ∃ q : Nat, q ≤ wn ∧ i = .int .i64 q ∧ Bk wr w3.heap.size 3 (i64s (sharesTo a lv l m k0 wind q)).toArray ∧ Bk wr w.heap.size 24 #[.int .i64 f, .slice A n c, .slice A2 m c2] ∧ Below w.heap.size w wr) (fun _ _ _ i _ => wn - (intOf i).toNat)
  case atStart => exact ⟨0, Nat.zero_le _, rfl, HZ.out, HKG3.out.alloc _, (HB3.out).alloc hw3 _⟩
  case round =>
    obtain ⟨q, hq, rfl, ho, hg, hb⟩ := hrel
    have HB := Lib.hid hb
    have HO := Lib.hid ho
    have HG := Lib.hid hg
    have ow := hb.size
    have oo := ho.lt
    by_cases hlt : q < wn
    · obtain ⟨b, o, x, rfl, hbb, hx, c0⟩ := (HV0.out _ hb).at_ hlt
      obtain ⟨Q1, hQ1⟩ : ∃ Q, q / m = Q := ⟨_, rfl⟩
      obtain ⟨Q2, hQ2⟩ : ∃ Q, q % m = Q := ⟨_, rfl⟩
      have hq1 : (q : Int) / (m : Int) = (Q1 : Int) := by rw [← Int.natCast_ediv, hQ1]
      have hq2 : (q : Int) % (m : Int) = (Q2 : Int) := by rw [← Int.natCast_emod, hQ2]
      have hQb : q / m ≤ q := Nat.div_le_self q m
      have hq3 : IntKind.i64.wrap (Q1 : Int) = (Q1 : Int) := IntWalk.i64_in _ (by omega)
      have hq4 : (q : Int).tdiv (m : Int) = (Q1 : Int) := by rw [Int.tdiv_eq_ediv_of_nonneg (by omega), hq1]
      have hq5 : (q : Int).tmod (m : Int) = (Q2 : Int) := by rw [← Int.ofNat_tmod, hQ2]
      have hq6 : IntKind.i64.wrap (Q2 : Int) = (Q2 : Int) := IntWalk.i64_in _ (by have := Nat.mod_lt q (show m > 0 by omega); omega)
      clear hQb
      have hQ1n : Q1 < n := by rw [← hQ1]; exact Nat.div_lt_of_lt_mul (by rw [Nat.mul_comm, ← HWN.out]; exact hlt)
      have hQ2m : Q2 < m := by rw [← hQ2]; exact Nat.mod_lt _ (by omega)
      have NR0 := HNR.out Q1 Q2 hQ1n hQ2m
      obtain ⟨r, hr⟩ : ∃ r, nearTo a lv l ((Q1 : Int), (Q2 : Int)) k0 = r := ⟨_, rfl⟩
      have hrk : r < k0 := by have := nearTo_lt (a := a) (lv := lv) (u := ((Q1 : Int), (Q2 : Int))) (by rw [HLEN.out]; exact hk0) k0 (by rw [HLEN.out]; exact Nat.le_refl _); rw [hr, HLEN.out] at this; exact this
      rw [hr] at NR0
      have NR := Lib.hid NR0
      obtain ⟨S, hS⟩ : ∃ S, sharesTo a lv l m k0 wind q = S := ⟨_, rfl⟩
      have hSl : S.length = k0 := by rw [← hS]; exact sharesTo_len q
      have hSb := HBD.out q r
      have hxb := HFB.out q
      rw [getD_of hx] at hxb
      have HN : Hid (sharesTo a lv l m k0 wind (q + 1) = S.set r (S.getD r 0 + x)) := Lib.hid (by simp only [sharesTo]; rw [hQ1, hQ2, hr, hS, getD_of hx])
      rw [hS] at hSb ho
      obtain ⟨y, hy⟩ : ∃ y, S.getD r 0 = y := ⟨_, rfl⟩
      rw [hy] at hSb HN
      have hsum : IntKind.i64.wrap (y + x) = y + x := IntWalk.i64_in _ (by omega)
      have hyS : Hid ((i64s S)[r]? = some (.int .i64 y)) := Lib.hid (by rw [i64s_get?, ← hy, List.getD_eq_getElem?_getD, List.getElem?_eq_getElem (by omega)]; rfl)
      have HSL := Lib.hid hSl
      have HO2 := Lib.hid ho
      have z1 : (0 : Int) ≤ (r : Int) := by omega
      have z2 : (r : Int) < (k0 : Int) := by omega
      have og := hg.lt
      obtain ⟨⟨g0, g1, g2⟩, -⟩ := hg.three
      clear hx hQ1 hQ2 hr hS hSl hSb hxb hy hQ1n hQ2m NR0 hb ho hg
      go_wp2
      go_region_held3 (fun w' => w'.cell? ⟨w.heap.size, 2, none⟩ = some (.slice A2 m c2)) (go_keep) (fail)
      go_wp2_with (go_at_call 69; with_reducible refine (NR.out _ ?_).mono ?_; (focus (have hb0 := HB.out; exact (by repeat (first | with_reducible exact Below.refl _ _ | with_reducible assumption | with_reducible refine Below.drew ?_ | with_reducible refine Below.drewN ?_ _ | with_reducible refine Below.alloc2 ?_ _ | with_reducible refine Below.alloc ?_ (by first | omega | (simp <;> omega)) _ | with_reducible refine Below.setCell ?_ (by first | omega | (simp <;> omega)) _ | with_reducible refine Below.step2 (by with_reducible assumption) ?_ | with_reducible refine Below.step (by with_reducible assumption) ?_ (by first | omega | (simp <;> omega)))))); rintro e w1 ⟨hb1, rfl⟩; have ho1 : Bk w1 w3.heap.size 3 (i64s S).toArray := (by have ho0 := HO2.out; exact (by repeat (first | with_reducible assumption | with_reducible exact Bk.at_ (by first | (simp; done) | omega) | with_reducible refine Bk.alloc ?_ _ | with_reducible refine Bk.drew ?_ | with_reducible refine Bk.drewN ?_ _ | with_reducible refine Bk.step (by with_reducible assumption) ?_ (by first | omega | (simp <;> omega))))); have hg1 : Bk w1 w.heap.size 24 #[.int .i64 f, .slice A n c, .slice A2 m c2] := (by have ho0 := HG.out; exact (by repeat (first | with_reducible assumption | with_reducible exact Bk.at_ (by first | (simp; done) | omega) | with_reducible refine Bk.alloc ?_ _ | with_reducible refine Bk.drew ?_ | with_reducible refine Bk.drewN ?_ _ | with_reducible refine Bk.step (by with_reducible assumption) ?_ (by first | omega | (simp <;> omega))))); have oz1 := hb1.size; (try simp at oz1); have HB1 : Hid (Below w.heap.size w w1) := Lib.hid (by have hb0 := HB.out; exact (by repeat (first | with_reducible exact Below.refl _ _ | with_reducible assumption | with_reducible refine Below.drew ?_ | with_reducible refine Below.drewN ?_ _ | with_reducible refine Below.alloc2 ?_ _ | with_reducible refine Below.alloc ?_ (by first | omega | (simp <;> omega)) _ | with_reducible refine Below.setCell ?_ (by first | omega | (simp <;> omega)) _ | with_reducible refine Below.step2 (by with_reducible assumption) ?_ | with_reducible refine Below.step (by with_reducible assumption) ?_ (by first | omega | (simp <;> omega))))); have hyc : w1.cell? ⟨w3.heap.size, r, none⟩ = some (.int .i64 y) := (by rw [ho1.cell r]; simpa using hyS.out); have hyf := ho1.frozen r; have HO1 := Lib.hid ho1; have HG1 := Lib.hid hg1; clear hb1 ho1 hg1)
      go_roundw
      case rel =>
        have hne : w.heap.size ≠ w3.heap.size := by omega
        refine ⟨q + 1, by omega, by go_num, ?_, HG1.out.other (by exact hne) _, HB1.out.setCell (by exact hw3) _⟩
        rw [HN.out]
        have := HO1.out.set_ r (.int .i64 (y + x))
        have e : (i64s (S.set r (y + x))).toArray = (i64s S).toArray.setIfInBounds r (.int .i64 (y + x)) := by simp [i64s, List.map_set]
        rw [e]
        exact this
      case measure => simp [intOf]; omega
    · obtain rfl : q = wn := by omega
      have hN : Nums wr wr.heap.size (some ⟨w3.heap.size, 0, none⟩) k0 k0 (sharesTo a lv l m k0 wind q) := Nums.of_bk ho oo (sharesTo_len q) (Nat.le_refl _) (by omega)
      have HN := Lib.hid hN
      clear hb ho hg hN
      go_wp2
      refine bodyPost_ret (results_tmp2 rfl _ _ _) rfl ?_
      exact ⟨HB.out, _, rfl, HN.out⟩

end Go.Proofs.YtfnphhmcbdoojaaGreatDoor
