/- The walk of HoldingGaps. -/
import Derived.Test.YtgljncfijcamhaaGreatDoorGaps6
namespace Go.Proofs.YtgljncfijcamhaaGreatDoor
open Go.RowKit

theorem htErr_zero7 {G E J : Int} (h : htErr G E J = 0) : G = 0 ∧ E = 0 ∧ J = 0 := by
  unfold htErr at h
  by_cases hg : G = 0
  · by_cases he : E = 0
    · refine ⟨hg, he, ?_⟩
      rwa [if_neg (by simp [hg]), if_neg (by simp [he])] at h
    · rw [if_neg (by simp [hg]), if_pos he] at h
      exact absurd h he
  · rw [if_pos hg] at h
    exact absurd h hg
theorem ruleErr_zero {ev fr sk ma st : Int} (h : ruleErr ev fr sk ma st = 0) : (1 ≤ ev ∧ ev ≤ 1000000) ∧ (0 ≤ fr ∧ fr ≤ 1000000) ∧ (0 ≤ sk ∧ sk ≤ 10) := by
  unfold ruleErr ruErr at h
  split at h
  · rename_i h1
    simp [inR] at h1
    omega
  · cases h
theorem lastTo_bd {l : List (Int × Int)} {lv : List Int} {sk : Int} {i : Nat} (h : allIn 1 1000000 lv = true) : ∀ k, 0 ≤ lastTo l lv sk i k ∧ lastTo l lv sk i k ≤ 1000000
  | 0 => by simp [lastTo]
  | k + 1 => by
    have ih := lastTo_bd (l := l) (sk := sk) (i := i) h k
    simp only [lastTo]
    split
    · rw [List.getD_eq_getElem?_getD]
      cases hk : lv[k]? with
      | none => simp
      | some x =>
        have := List.all_eq_true.1 h x (List.mem_of_getElem? hk)
        simp at this ⊢
        omega
    · exact ih
theorem any_snocT {p : Int × Int → Bool} {l : List (Int × Int)} {k : Nat} {x : Int × Int} (hx : l[k]? = some x) : (l.take (k + 1)).any p = ((l.take k).any p || p x) := by
  obtain ⟨hk, rfl⟩ := List.getElem?_eq_some_iff.1 hx
  rw [List.take_succ_eq_append_getElem hk, List.any_append]
  simp
set_option maxRecDepth 100000 in
set_option maxHeartbeats 32000000 in
theorem lawGaps_any (f : Int) (A A2 T : Option Addr) (n c m c2 k0 ct : Nat) (ev fr sk ma st : Int) (a lv : List Int) (l : List (Int × Int)) (w : World) (ha : Nums w w.heap.size A n c a) (hl : Nums w w.heap.size A2 m c2 lv) (ht : Pts w w.heap.size T k0 ct l) :
    Calls Tryz.prog 7 #[.agg #[.int .i64 f, .slice A n c, .slice A2 m c2], .agg #[.int .i64 ev, .int .i64 fr, .int .i64 sk, .int .i64 ma, .int .i64 st], .slice T k0 ct] w fun e w' => Below w.heap.size w w' ∧ e = .returned (.bool true) := by
  have hlenA := ha.len
  have hlenB := hl.len
  have hlenT := ht.len
  have hcapA := ha.cap
  have hmaxA := ha.max
  have hcapB := hl.cap
  have hmaxB := hl.max
  have hcapT := ht.cap
  have hmaxT := ht.max
  obtain ⟨G, hG⟩ : ∃ G, gridErr f a lv = G := ⟨_, rfl⟩
  obtain ⟨TE, hTE⟩ : ∃ E, tiesErr n m l = E := ⟨_, rfl⟩
  have c1 : ∀ w', Below w.heap.size w w' → Calls Tryz.prog 80 #[.agg #[.int .i64 f, .slice A n c, .slice A2 m c2]] w' fun e w'' => Below w'.heap.size w' w'' ∧ e = .returned (.int .i64 G) := fun w' hb => by
    rw [← hG]; exact checkGrid_any f A A2 n c m c2 a lv w' (ha.below hb (Nat.le_refl _) hb.size) (hl.below hb (Nat.le_refl _) hb.size)
  have c2' : ∀ w', Below w.heap.size w w' → Calls Tryz.prog 43 #[.agg #[.int .i64 f, .slice A n c, .slice A2 m c2]] w' fun e w'' => Below w'.heap.size w' w'' ∧ e = .returned (.int .i64 G) := fun w' hb => by
    rw [← hG]; exact refCheckGrid_any f A A2 n c m c2 a lv w' (ha.below hb (Nat.le_refl _) hb.size) (hl.below hb (Nat.le_refl _) hb.size)
  have c3 : ∀ w', Below w.heap.size w w' → Calls Tryz.prog 45 #[.agg #[.int .i64 f, .slice A n c, .slice A2 m c2], .slice T k0 ct] w' fun e w'' => Below w'.heap.size w' w'' ∧ e = .returned (.int .i64 TE) := fun w' hb => by
    rw [← hTE]; exact tiesError_any f A A2 T n c m c2 k0 ct l w' hcapA hmaxA hcapB hmaxB (ht.below hb (Nat.le_refl _) hb.size)
  have c5 : ∀ w', Below w.heap.size w w' → Calls Tryz.prog 49 #[.agg #[.int .i64 f, .slice A n c, .slice A2 m c2], .slice T k0 ct] w' fun e w'' => Below w'.heap.size w' w'' ∧ e = .returned (.int .i64 TE) := fun w' hb => by
    rw [← hTE]; exact refCheckTies_any f A A2 T n c m c2 k0 ct l w' hcapA hmaxA hcapB hmaxB (ht.below hb (Nat.le_refl _) hb.size)
  obtain ⟨fb, hfb⟩ : ∃ b, fewB n m G = b := ⟨_, rfl⟩
  have CF : Hid (∀ w', Below w.heap.size w w' → Calls Tryz.prog 9 #[.agg #[.int .i64 f, .slice A n c, .slice A2 m c2]] w' fun e w'' => Below w'.heap.size w' w'' ∧ e = .returned (.bool fb)) := Lib.hid fun w' hb => by
    rw [← hfb]; exact few_any f A A2 n c m c2 G w' fun w'' hb' => c2' w'' (hb.trans (hb'.mono hb.size))
  obtain ⟨WE, hWE⟩ : ∃ E, htErr G (ruleErr ev fr sk ma st) TE = E := ⟨_, rfl⟩
  have CW : Hid (∀ w', Below w.heap.size w w' → Calls Tryz.prog 12 #[.agg #[.int .i64 f, .slice A n c, .slice A2 m c2], .agg #[.int .i64 ev, .int .i64 fr, .int .i64 sk, .int .i64 ma, .int .i64 st], .slice T k0 ct] w' fun e w'' => Below w'.heap.size w' w'' ∧ e = .returned (.int .i64 WE)) := Lib.hid fun w' hb => by
    rw [← hWE]; exact refAll_any f A A2 n c m c2 ev fr sk ma st T k0 ct G TE w' (fun w'' hb' => c2' w'' (hb.trans (hb'.mono hb.size))) (fun w'' hb' => c5 w'' (hb.trans (hb'.mono hb.size)))
  cases fb
  · clear c1 c2' c3 c5 ha hl ht hG hTE hfb hWE
    (
        go_enter Tryz.func7, Tryz.ntmps7
        go_wp2_with (first
    | (go_at_call 8; with_reducible refine (awake_true _).mono ?_; rintro e w1 ⟨hb1, rfl⟩; have kg : Bk w1 w.heap.size 24 #[.int .i64 f, .slice A n c, .slice A2 m c2] := (by repeat (first | with_reducible assumption | with_reducible exact Bk.at_ (by first | (simp; done) | omega) | with_reducible refine Bk.alloc ?_ _ | with_reducible refine Bk.drew ?_ | with_reducible refine Bk.drewN ?_ _ | with_reducible refine Bk.step (by with_reducible assumption) ?_ (by first | omega | (simp <;> omega)))); have kr : Bk w1 (w.heap.size + 1) 26 #[.int .i64 ev, .int .i64 fr, .int .i64 sk, .int .i64 ma, .int .i64 st] := (by repeat (first | with_reducible assumption | with_reducible exact Bk.at_ (by first | (simp; done) | omega) | with_reducible refine Bk.alloc ?_ _ | with_reducible refine Bk.drew ?_ | with_reducible refine Bk.drewN ?_ _ | with_reducible refine Bk.step (by with_reducible assumption) ?_ (by first | omega | (simp <;> omega)))); obtain ⟨⟨g0, g1, g2⟩, -⟩ := kg.three; obtain ⟨r0, r1, r2, r3, r4⟩ := kr.five; have oz1 := hb1.size; (try simp at oz1))
    | (go_at_call 9; with_reducible refine (CF.out _ ?_).mono ?_; (focus (exact (by repeat (first | with_reducible exact Below.refl _ _ | with_reducible assumption | with_reducible refine Below.drew ?_ | with_reducible refine Below.drewN ?_ _ | with_reducible refine Below.alloc2 ?_ _ | with_reducible refine Below.alloc ?_ (by first | omega | (simp <;> omega)) _ | with_reducible refine Below.setCell ?_ (by first | omega | (simp <;> omega)) _ | with_reducible refine Below.step2 (by with_reducible assumption) ?_ | with_reducible refine Below.step (by with_reducible assumption) ?_ (by first | omega | (simp <;> omega)))))); rintro e w1 ⟨hb1, rfl⟩; have kg : Bk w1 w.heap.size 24 #[.int .i64 f, .slice A n c, .slice A2 m c2] := (by repeat (first | with_reducible assumption | with_reducible exact Bk.at_ (by first | (simp; done) | omega) | with_reducible refine Bk.alloc ?_ _ | with_reducible refine Bk.drew ?_ | with_reducible refine Bk.drewN ?_ _ | with_reducible refine Bk.step (by with_reducible assumption) ?_ (by first | omega | (simp <;> omega)))); have kr : Bk w1 (w.heap.size + 1) 26 #[.int .i64 ev, .int .i64 fr, .int .i64 sk, .int .i64 ma, .int .i64 st] := (by repeat (first | with_reducible assumption | with_reducible exact Bk.at_ (by first | (simp; done) | omega) | with_reducible refine Bk.alloc ?_ _ | with_reducible refine Bk.drew ?_ | with_reducible refine Bk.drewN ?_ _ | with_reducible refine Bk.step (by with_reducible assumption) ?_ (by first | omega | (simp <;> omega)))); obtain ⟨⟨g0, g1, g2⟩, -⟩ := kg.three; obtain ⟨r0, r1, r2, r3, r4⟩ := kr.five; have oz1 := hb1.size; (try simp at oz1))
            | (go_at_call 12; with_reducible refine (CW.out _ ?_).mono ?_; (focus (exact (by repeat (first | with_reducible exact Below.refl _ _ | with_reducible assumption | with_reducible refine Below.drew ?_ | with_reducible refine Below.drewN ?_ _ | with_reducible refine Below.alloc2 ?_ _ | with_reducible refine Below.alloc ?_ (by first | omega | (simp <;> omega)) _ | with_reducible refine Below.setCell ?_ (by first | omega | (simp <;> omega)) _ | with_reducible refine Below.step2 (by with_reducible assumption) ?_ | with_reducible refine Below.step (by with_reducible assumption) ?_ (by first | omega | (simp <;> omega)))))); rintro e w1 ⟨hb1, rfl⟩; have kg : Bk w1 w.heap.size 24 #[.int .i64 f, .slice A n c, .slice A2 m c2] := (by repeat (first | with_reducible assumption | with_reducible exact Bk.at_ (by first | (simp; done) | omega) | with_reducible refine Bk.alloc ?_ _ | with_reducible refine Bk.drew ?_ | with_reducible refine Bk.drewN ?_ _ | with_reducible refine Bk.step (by with_reducible assumption) ?_ (by first | omega | (simp <;> omega)))); have kr : Bk w1 (w.heap.size + 1) 26 #[.int .i64 ev, .int .i64 fr, .int .i64 sk, .int .i64 ma, .int .i64 st] := (by repeat (first | with_reducible assumption | with_reducible exact Bk.at_ (by first | (simp; done) | omega) | with_reducible refine Bk.alloc ?_ _ | with_reducible refine Bk.drew ?_ | with_reducible refine Bk.drewN ?_ _ | with_reducible refine Bk.step (by with_reducible assumption) ?_ (by first | omega | (simp <;> omega)))); obtain ⟨⟨g0, g1, g2⟩, -⟩ := kg.three; obtain ⟨r0, r1, r2, r3, r4⟩ := kr.five; have oz1 := hb1.size; (try simp at oz1)))
        go_ret
        exact ⟨(by repeat (first | with_reducible exact Below.refl _ _ | with_reducible assumption | with_reducible refine Below.drew ?_ | with_reducible refine Below.drewN ?_ _ | with_reducible refine Below.alloc2 ?_ _ | with_reducible refine Below.alloc ?_ (by first | omega | (simp <;> omega)) _ | with_reducible refine Below.setCell ?_ (by first | omega | (simp <;> omega)) _ | with_reducible refine Below.step2 (by with_reducible assumption) ?_ | with_reducible refine Below.step (by with_reducible assumption) ?_ (by first | omega | (simp <;> omega)))), rfl⟩)
  rcases Nat.lt_or_ge 40 k0 with hk | hk
  · have hki : (40 : Int) < (k0 : Int) := by omega
    clear c1 c2' c3 c5 ha hl ht hG hTE hfb hWE
    (
        go_enter Tryz.func7, Tryz.ntmps7
        go_wp2_with (first
    | (go_at_call 8; with_reducible refine (awake_true _).mono ?_; rintro e w1 ⟨hb1, rfl⟩; have kg : Bk w1 w.heap.size 24 #[.int .i64 f, .slice A n c, .slice A2 m c2] := (by repeat (first | with_reducible assumption | with_reducible exact Bk.at_ (by first | (simp; done) | omega) | with_reducible refine Bk.alloc ?_ _ | with_reducible refine Bk.drew ?_ | with_reducible refine Bk.drewN ?_ _ | with_reducible refine Bk.step (by with_reducible assumption) ?_ (by first | omega | (simp <;> omega)))); have kr : Bk w1 (w.heap.size + 1) 26 #[.int .i64 ev, .int .i64 fr, .int .i64 sk, .int .i64 ma, .int .i64 st] := (by repeat (first | with_reducible assumption | with_reducible exact Bk.at_ (by first | (simp; done) | omega) | with_reducible refine Bk.alloc ?_ _ | with_reducible refine Bk.drew ?_ | with_reducible refine Bk.drewN ?_ _ | with_reducible refine Bk.step (by with_reducible assumption) ?_ (by first | omega | (simp <;> omega)))); obtain ⟨⟨g0, g1, g2⟩, -⟩ := kg.three; obtain ⟨r0, r1, r2, r3, r4⟩ := kr.five; have oz1 := hb1.size; (try simp at oz1))
    | (go_at_call 9; with_reducible refine (CF.out _ ?_).mono ?_; (focus (exact (by repeat (first | with_reducible exact Below.refl _ _ | with_reducible assumption | with_reducible refine Below.drew ?_ | with_reducible refine Below.drewN ?_ _ | with_reducible refine Below.alloc2 ?_ _ | with_reducible refine Below.alloc ?_ (by first | omega | (simp <;> omega)) _ | with_reducible refine Below.setCell ?_ (by first | omega | (simp <;> omega)) _ | with_reducible refine Below.step2 (by with_reducible assumption) ?_ | with_reducible refine Below.step (by with_reducible assumption) ?_ (by first | omega | (simp <;> omega)))))); rintro e w1 ⟨hb1, rfl⟩; have kg : Bk w1 w.heap.size 24 #[.int .i64 f, .slice A n c, .slice A2 m c2] := (by repeat (first | with_reducible assumption | with_reducible exact Bk.at_ (by first | (simp; done) | omega) | with_reducible refine Bk.alloc ?_ _ | with_reducible refine Bk.drew ?_ | with_reducible refine Bk.drewN ?_ _ | with_reducible refine Bk.step (by with_reducible assumption) ?_ (by first | omega | (simp <;> omega)))); have kr : Bk w1 (w.heap.size + 1) 26 #[.int .i64 ev, .int .i64 fr, .int .i64 sk, .int .i64 ma, .int .i64 st] := (by repeat (first | with_reducible assumption | with_reducible exact Bk.at_ (by first | (simp; done) | omega) | with_reducible refine Bk.alloc ?_ _ | with_reducible refine Bk.drew ?_ | with_reducible refine Bk.drewN ?_ _ | with_reducible refine Bk.step (by with_reducible assumption) ?_ (by first | omega | (simp <;> omega)))); obtain ⟨⟨g0, g1, g2⟩, -⟩ := kg.three; obtain ⟨r0, r1, r2, r3, r4⟩ := kr.five; have oz1 := hb1.size; (try simp at oz1))
            | (go_at_call 12; with_reducible refine (CW.out _ ?_).mono ?_; (focus (exact (by repeat (first | with_reducible exact Below.refl _ _ | with_reducible assumption | with_reducible refine Below.drew ?_ | with_reducible refine Below.drewN ?_ _ | with_reducible refine Below.alloc2 ?_ _ | with_reducible refine Below.alloc ?_ (by first | omega | (simp <;> omega)) _ | with_reducible refine Below.setCell ?_ (by first | omega | (simp <;> omega)) _ | with_reducible refine Below.step2 (by with_reducible assumption) ?_ | with_reducible refine Below.step (by with_reducible assumption) ?_ (by first | omega | (simp <;> omega)))))); rintro e w1 ⟨hb1, rfl⟩; have kg : Bk w1 w.heap.size 24 #[.int .i64 f, .slice A n c, .slice A2 m c2] := (by repeat (first | with_reducible assumption | with_reducible exact Bk.at_ (by first | (simp; done) | omega) | with_reducible refine Bk.alloc ?_ _ | with_reducible refine Bk.drew ?_ | with_reducible refine Bk.drewN ?_ _ | with_reducible refine Bk.step (by with_reducible assumption) ?_ (by first | omega | (simp <;> omega)))); have kr : Bk w1 (w.heap.size + 1) 26 #[.int .i64 ev, .int .i64 fr, .int .i64 sk, .int .i64 ma, .int .i64 st] := (by repeat (first | with_reducible assumption | with_reducible exact Bk.at_ (by first | (simp; done) | omega) | with_reducible refine Bk.alloc ?_ _ | with_reducible refine Bk.drew ?_ | with_reducible refine Bk.drewN ?_ _ | with_reducible refine Bk.step (by with_reducible assumption) ?_ (by first | omega | (simp <;> omega)))); obtain ⟨⟨g0, g1, g2⟩, -⟩ := kg.three; obtain ⟨r0, r1, r2, r3, r4⟩ := kr.five; have oz1 := hb1.size; (try simp at oz1)))
        go_ret
        exact ⟨(by repeat (first | with_reducible exact Below.refl _ _ | with_reducible assumption | with_reducible refine Below.drew ?_ | with_reducible refine Below.drewN ?_ _ | with_reducible refine Below.alloc2 ?_ _ | with_reducible refine Below.alloc ?_ (by first | omega | (simp <;> omega)) _ | with_reducible refine Below.setCell ?_ (by first | omega | (simp <;> omega)) _ | with_reducible refine Below.step2 (by with_reducible assumption) ?_ | with_reducible refine Below.step (by with_reducible assumption) ?_ (by first | omega | (simp <;> omega)))), rfl⟩)
  have hki : ¬ (40 : Int) < (k0 : Int) := by omega
  by_cases h0 : WE = 0
  · subst h0
    obtain ⟨rfl, hR, rfl⟩ := htErr_zero7 hWE
    obtain ⟨he, hf, hs⟩ := ruleErr_zero hR
    obtain ⟨-, -, -, ba, bl, -, hrise⟩ := gErr_zero hG
    have hsizes := gridErr_sizes hG
    rw [hlenA, hlenB] at hsizes
    obtain ⟨hn1, hn, hm1, hm⟩ := hsizes
    have hin := tiesErr_zero hTE
    have hmono : ∀ j k, j < k → k < m → lv.getD j 0 < lv.getD k 0 := by
      have hr := rise_iff.1 hrise
      intro j k hjk hk
      induction k with
      | zero => omega
      | succ k ih =>
        have h1 := hr k (by omega)
        rcases Nat.lt_or_ge j k with h | h
        · have := ih h (by omega); omega
        · obtain rfl : j = k := by omega
          exact h1
    have hpos : ∀ k, k < m → 1 ≤ lv.getD k 0 := fun k hk => by
      have hx : lv[k]? = some lv[k] := List.getElem?_eq_getElem (by omega)
      have := List.all_eq_true.1 bl lv[k] (List.mem_of_getElem? hx)
      rw [getD_of hx]
      simp at this
      omega
    have hnat : ∀ t ∈ l, ∃ x k : Nat, t = ((x : Int), (k : Int)) ∧ x < n ∧ k < m := fun t htm => by
      have h1 := List.any_eq_false.1 hin t htm
      simp [tieIn, inR] at h1
      exact ⟨t.1.toNat, t.2.toNat, by ext <;> simp <;> omega, by omega, by omega⟩
    have HEQ : Hid ((noPl (demAll lv (wants lv fr) ev sk l k0 n)).isNone = rightAll l lv sk ev fr (topOf lv) m n) := Lib.hid (gaps_eq hlenB hlenT hpos hmono fun t htm => by obtain ⟨x, k, e, -, h2⟩ := hnat t htm; exact ⟨x, k, e, h2⟩)
    have HNAT := Lib.hid hnat
    have HLB : Hid (∀ i k, 0 ≤ lastTo l lv sk i k ∧ lastTo l lv sk i k ≤ 1000000) := Lib.hid fun i k => lastTo_bd bl k
    have HLV : Hid (∀ (k : Nat) (x : Int), lv[k]? = some x → 1 ≤ x ∧ x ≤ 1000000) := Lib.hid fun (k : Nat) (x : Int) hx => by have := List.all_eq_true.1 bl x (List.mem_of_getElem? hx); simpa using this
    have cd := fun (w' : World) (hb : Below w.heap.size w w') => demands_ok f A A2 n c m c2 ev fr sk ma st T k0 ct a lv l w' (ha.below hb (Nat.le_refl _) hb.size) (hl.below hb (Nat.le_refl _) hb.size) (ht.below hb (Nat.le_refl _) hb.size) hn hm1 (by omega) (by omega) bl hin hR
      (fun w'' hb' => c1 w'' (hb.trans (hb'.mono hb.size))) (fun w'' hb' => c3 w'' (hb.trans (hb'.mono hb.size)))
    generalize demAll lv (wants lv fr) ev sk l k0 n = D at cd HEQ
    have CH : Hid (∀ w', Below w.heap.size w w' → Calls Tryz.prog 11 #[.agg #[.int .i64 f, .slice A n c, .slice A2 m c2], .agg #[.int .i64 ev, .int .i64 fr, .int .i64 sk, .int .i64 ma, .int .i64 st], .slice T k0 ct] w' fun e w'' => Below w'.heap.size w' w'' ∧ ∃ (x y : Int) (P : Option Addr) (pc : Nat), e = .returned (.tuple #[.bool (noPl D).isNone, .agg #[.int .i64 x, .int .i64 y, .slice P 0 pc], .int .i64 0])) := Lib.hid fun w' hb =>
      (held_ok f A A2 n c m c2 ev fr sk ma st T k0 ct D w' fun w'' hb' => cd w'' (hb.trans (hb'.mono hb.size))).mono fun e w'' h => ⟨h.1, by
        rcases h.2 with ⟨h1, h2⟩ | ⟨d, P, pc, h1, -, h2, -⟩
        · rw [h1]; exact ⟨_, _, _, _, h2⟩
        · rw [h1]; exact ⟨_, _, _, _, h2⟩⟩
    rw [HEQ.out] at CH
    obtain ⟨b, o, T0, rfl, hbb, hT, c0⟩ := hl.at_ (k := m - 1) (by omega)
    have HTOP : Hid (topOf lv = T0) := Lib.hid (by unfold topOf; rw [hlenB]; exact getD_of hT)
    rw [HTOP.out] at CH
    have hTb := HLV.out _ _ hT
    obtain ⟨M, rfl⟩ : ∃ M, m = M + 1 := ⟨m - 1, by omega⟩
    have HL : Hid (∀ w', Below w.heap.size w w' → Nums w' w.heap.size (some ⟨b, o, none⟩) (M + 1) c2 lv) := fun w' hb => hl.below hb (Nat.le_refl _) (Nat.le_refl _)
    have HT : Hid (∀ w', Below w.heap.size w w' → Pts w' w.heap.size T k0 ct l) := fun w' hb => ht.below hb (Nat.le_refl _) (Nat.le_refl _)
    have HC0 : Hid (∀ w', Below w.heap.size w w' → w'.cell? ⟨b, o + M, none⟩ = some (.int .i64 T0)) := Lib.hid fun w' hb => ((bcell hb).1 _ _ hbb).trans c0
    have hwM : IntKind.i64.wrap (((M + 1 : Nat) : Int) - 1) = (M : Int) := by rw [IntWalk.i64_in _ (by omega)]; omega
    have hwM2 : IntKind.i64.wrap ((M : Int) + 1 - 1) = (M : Int) := by rw [IntWalk.i64_in _ (by omega)]; omega
    have hwM3 : IntKind.i64.wrap (M : Int) = (M : Int) := IntWalk.i64_in _ (by omega)
    have y1 : (0 : Int) ≤ (M : Int) := by omega
    have y2 : (M : Int) < (M : Int) + 1 := by omega
    have HLT := Lib.hid hlenT
    clear c1 c2' c3 c5 ha hl ht hG hTE hfb hWE hR ba bl hrise hin hmono hpos hnat cd HEQ HTOP hT c0 hlenA hlenB hlenT
    go_enter Tryz.func7, Tryz.ntmps7
    go_wp2_with (first
        | (go_at_call 8; with_reducible refine (awake_true _).mono ?_; rintro e w1 ⟨hb1, rfl⟩; have kg : Bk w1 w.heap.size 24 #[.int .i64 f, .slice A n c, .slice (some ⟨b, o, none⟩) (M + 1) c2] := (by repeat (first | with_reducible assumption | with_reducible exact Bk.at_ (by first | (simp; done) | omega) | with_reducible refine Bk.alloc ?_ _ | with_reducible refine Bk.drew ?_ | with_reducible refine Bk.drewN ?_ _ | with_reducible refine Bk.step (by with_reducible assumption) ?_ (by first | omega | (simp <;> omega)))); have kr : Bk w1 (w.heap.size + 1) 26 #[.int .i64 ev, .int .i64 fr, .int .i64 sk, .int .i64 ma, .int .i64 st] := (by repeat (first | with_reducible assumption | with_reducible exact Bk.at_ (by first | (simp; done) | omega) | with_reducible refine Bk.alloc ?_ _ | with_reducible refine Bk.drew ?_ | with_reducible refine Bk.drewN ?_ _ | with_reducible refine Bk.step (by with_reducible assumption) ?_ (by first | omega | (simp <;> omega)))); obtain ⟨⟨g0, g1, g2⟩, -⟩ := kg.three; obtain ⟨r0, r1, r2, r3, r4⟩ := kr.five; have oz1 := hb1.size; (try simp at oz1))
        | (go_at_call 9; with_reducible refine (CF.out _ ?_).mono ?_; (focus (exact (by repeat (first | with_reducible exact Below.refl _ _ | with_reducible assumption | with_reducible refine Below.drew ?_ | with_reducible refine Below.drewN ?_ _ | with_reducible refine Below.alloc2 ?_ _ | with_reducible refine Below.alloc ?_ (by first | omega | (simp <;> omega)) _ | with_reducible refine Below.setCell ?_ (by first | omega | (simp <;> omega)) _ | with_reducible refine Below.step2 (by with_reducible assumption) ?_ | with_reducible refine Below.step (by with_reducible assumption) ?_ (by first | omega | (simp <;> omega)))))); rintro e w1 ⟨hb1, rfl⟩; have kg : Bk w1 w.heap.size 24 #[.int .i64 f, .slice A n c, .slice (some ⟨b, o, none⟩) (M + 1) c2] := (by repeat (first | with_reducible assumption | with_reducible exact Bk.at_ (by first | (simp; done) | omega) | with_reducible refine Bk.alloc ?_ _ | with_reducible refine Bk.drew ?_ | with_reducible refine Bk.drewN ?_ _ | with_reducible refine Bk.step (by with_reducible assumption) ?_ (by first | omega | (simp <;> omega)))); have kr : Bk w1 (w.heap.size + 1) 26 #[.int .i64 ev, .int .i64 fr, .int .i64 sk, .int .i64 ma, .int .i64 st] := (by repeat (first | with_reducible assumption | with_reducible exact Bk.at_ (by first | (simp; done) | omega) | with_reducible refine Bk.alloc ?_ _ | with_reducible refine Bk.drew ?_ | with_reducible refine Bk.drewN ?_ _ | with_reducible refine Bk.step (by with_reducible assumption) ?_ (by first | omega | (simp <;> omega)))); obtain ⟨⟨g0, g1, g2⟩, -⟩ := kg.three; obtain ⟨r0, r1, r2, r3, r4⟩ := kr.five; have oz1 := hb1.size; (try simp at oz1))
        | (go_at_call 12; with_reducible refine (CW.out _ ?_).mono ?_; (focus (exact (by repeat (first | with_reducible exact Below.refl _ _ | with_reducible assumption | with_reducible refine Below.drew ?_ | with_reducible refine Below.drewN ?_ _ | with_reducible refine Below.alloc2 ?_ _ | with_reducible refine Below.alloc ?_ (by first | omega | (simp <;> omega)) _ | with_reducible refine Below.setCell ?_ (by first | omega | (simp <;> omega)) _ | with_reducible refine Below.step2 (by with_reducible assumption) ?_ | with_reducible refine Below.step (by with_reducible assumption) ?_ (by first | omega | (simp <;> omega)))))); rintro e wS ⟨hb1, rfl⟩; have kg : Bk wS w.heap.size 24 #[.int .i64 f, .slice A n c, .slice (some ⟨b, o, none⟩) (M + 1) c2] := (by repeat (first | with_reducible assumption | with_reducible exact Bk.at_ (by first | (simp; done) | omega) | with_reducible refine Bk.alloc ?_ _ | with_reducible refine Bk.drew ?_ | with_reducible refine Bk.drewN ?_ _ | with_reducible refine Bk.step (by with_reducible assumption) ?_ (by first | omega | (simp <;> omega)))); have kr : Bk wS (w.heap.size + 1) 26 #[.int .i64 ev, .int .i64 fr, .int .i64 sk, .int .i64 ma, .int .i64 st] := (by repeat (first | with_reducible assumption | with_reducible exact Bk.at_ (by first | (simp; done) | omega) | with_reducible refine Bk.alloc ?_ _ | with_reducible refine Bk.drew ?_ | with_reducible refine Bk.drewN ?_ _ | with_reducible refine Bk.step (by with_reducible assumption) ?_ (by first | omega | (simp <;> omega)))); have oz1 := hb1.size; (try simp at oz1); have HBS : Hid (Below w.heap.size w wS) := Lib.hid (by exact (by repeat (first | with_reducible exact Below.refl _ _ | with_reducible assumption | with_reducible refine Below.drew ?_ | with_reducible refine Below.drewN ?_ _ | with_reducible refine Below.alloc2 ?_ _ | with_reducible refine Below.alloc ?_ (by first | omega | (simp <;> omega)) _ | with_reducible refine Below.setCell ?_ (by first | omega | (simp <;> omega)) _ | with_reducible refine Below.step2 (by with_reducible assumption) ?_ | with_reducible refine Below.step (by with_reducible assumption) ?_ (by first | omega | (simp <;> omega))))); have HKG := Lib.hid kg; have HKR := Lib.hid kr; clear kg kr hb1))
    have okg := HKG.out.lt
    have okr := HKR.out.lt
    go_loopw [7, 8, 9, 10, 11, 12] (fun r x _ _ _ _ wr => ∃ i : Nat, i ≤ n ∧ x = .int .i64 i ∧ r = .bool (rightAll l lv sk ev fr T0 (M + 1) i) ∧ Below wS.heap.size wS wr) (fun _ x _ _ _ _ _ => n - (intOf x).toNat)
    case atStart => exact ⟨0, Nat.zero_le _, rfl, rfl, Below.refl _ _⟩
    case round =>
    obtain ⟨i, hi, rfl, rfl, hb⟩ := hrel
    have HB := Lib.hid hb
    have ow := hb.size
    obtain ⟨⟨p0, p1, p2⟩, -⟩ := Bk.three (show Bk wr w.heap.size 24 #[.int .i64 f, .slice A n c, .slice (some ⟨b, o, none⟩) (M + 1) c2] from (hb.block _ okg).trans HKG.out)
    obtain ⟨r0, r1, r2, r3, r4⟩ := Bk.five (show Bk wr (w.heap.size + 1) 26 #[.int .i64 ev, .int .i64 fr, .int .i64 sk, .int .i64 ma, .int .i64 st] from (hb.block _ okr).trans HKR.out)
    obtain ⟨R0, hR0⟩ : ∃ R, rightAll l lv sk ev fr T0 (M + 1) i = R := ⟨_, rfl⟩
    have HR0 := Lib.hid hR0
    rw [hR0]
    clear hR0
    by_cases hlt : i < n
    · clear hb
      go_wp2
      go_loopw [7, 9, 10, 11, 12] (fun r la x _ _ wr => ∃ k : Nat, k ≤ M + 1 ∧ x = .int .i64 k ∧ r = .bool (rightTo l lv sk ev fr T0 i R0 k) ∧ la = .int .i64 (lastTo l lv sk i k) ∧ Below wS.heap.size wS wr) (fun _ _ x _ _ _ => M + 1 - (intOf x).toNat)
      case atStart => exact ⟨0, Nat.zero_le _, rfl, rfl, rfl, HB.out⟩
      case round =>
      clear HB ow p0 p1 p2 r0 r1 r2 r3 r4
      obtain ⟨k, hk, rfl, rfl, rfl, hb⟩ := hrel
      have HB := Lib.hid hb
      have ow := hb.size
      obtain ⟨⟨p0, p1, p2⟩, -⟩ := Bk.three (show Bk wr w.heap.size 24 #[.int .i64 f, .slice A n c, .slice (some ⟨b, o, none⟩) (M + 1) c2] from (hb.block _ okg).trans HKG.out)
      obtain ⟨r0, r1, r2, r3, r4⟩ := Bk.five (show Bk wr (w.heap.size + 1) 26 #[.int .i64 ev, .int .i64 fr, .int .i64 sk, .int .i64 ma, .int .i64 st] from (hb.block _ okr).trans HKR.out)
      obtain ⟨R1, hR1⟩ : ∃ R, rightTo l lv sk ev fr T0 i R0 k = R := ⟨_, rfl⟩
      obtain ⟨La, hLa⟩ : ∃ R, lastTo l lv sk i k = R := ⟨_, rfl⟩
      have hLb := HLB.out i k
      rw [hLa] at hLb
      have HR1 := Lib.hid hR1
      have HLa := Lib.hid hLa
      rw [hR1, hLa]
      clear hR1 hLa
      by_cases hltk : k < M + 1
      · clear hb
        go_wp2
        go_loopw [11, 12] (fun h x wr => ∃ j : Nat, j ≤ k0 ∧ x = .int .i64 j ∧ h = .bool ((l.take j).any (heldB sk i k)) ∧ Below wS.heap.size wS wr) (fun _ x _ => k0 - (intOf x).toNat)
        case atStart => exact ⟨0, Nat.zero_le _, rfl, rfl, HB.out⟩
        case round =>
        clear HB ow p0 p1 p2 r0 r1 r2 r3 r4
        obtain ⟨j, hj, rfl, rfl, hb⟩ := hrel
        have HB := Lib.hid hb
        have ow := hb.size
        obtain ⟨⟨p0, p1, p2⟩, -⟩ := Bk.three (show Bk wr w.heap.size 24 #[.int .i64 f, .slice A n c, .slice (some ⟨b, o, none⟩) (M + 1) c2] from (hb.block _ okg).trans HKG.out)
        obtain ⟨r0, r1, r2, r3, r4⟩ := Bk.five (show Bk wr (w.heap.size + 1) 26 #[.int .i64 ev, .int .i64 fr, .int .i64 sk, .int .i64 ma, .int .i64 st] from (hb.block _ okr).trans HKR.out)
        obtain ⟨H, hH⟩ : ∃ R, (l.take j).any (heldB sk i k) = R := ⟨_, rfl⟩
        have HH := Lib.hid hH
        rw [hH]
        clear hH
        by_cases hltj : j < k0
        · obtain ⟨b2, o2, x, rfl, hbb2, hx, d0, d1⟩ := (HT.out _ (HBS.out.trans (hb.mono HBS.out.size))).at_ hltj
          obtain ⟨X1, X2, rfl, hX1, hX2⟩ := HNAT.out _ (List.mem_of_getElem? hx)
          have hE := any_snocT (p := heldB sk i k) hx
          rw [HH.out] at hE
          dsimp only at d0 d1
          have ob2 : b2 < wr.heap.size := by have := HBS.out.size; omega
          cases H
          · by_cases hk2 : X2 = k
            · subst hk2
              have hw1 : IntKind.i64.wrap ((i : Int) - sk) = (i : Int) - sk := IntWalk.i64_in _ (by omega)
              have hw2 : IntKind.i64.wrap ((i : Int) + sk) = (i : Int) + sk := IntWalk.i64_in _ (by omega)
              have WI := Lib.hid (fun W => within_any (X1 : Int) ((i : Int) - sk) ((i : Int) + sk) W)
              have he2 : heldB sk i X2 ((X1 : Int), (X2 : Int)) = decide ((i : Int) - sk ≤ (X1 : Int) ∧ (X1 : Int) ≤ (i : Int) + sk) := by simp [heldB]
              rw [he2, Bool.false_or] at hE
              generalize decide ((i : Int) - sk ≤ (X1 : Int) ∧ (X1 : Int) ≤ (i : Int) + sk) = D2 at WI hE
              have HE := Lib.hid hE
              clear he2 hE hb hx
              cases D2
              · go_wp2
                go_quiet (first | (go_at_call_of 24 (Value.int .i64 (X1 : Int)); exact quiet_left (WI.out _)))
                go_wp2
                (go_roundw
                 case rel =>
                  have hb0 := HB.out
                  exact ⟨j + 1, by omega, by go_num, by rw [HE.out], (by repeat (first | with_reducible exact Below.refl _ _ | with_reducible assumption | with_reducible refine Below.drew ?_ | with_reducible refine Below.drewN ?_ _ | with_reducible refine Below.alloc2 ?_ _ | with_reducible refine Below.alloc ?_ (by first | omega | (simp <;> omega)) _ | with_reducible refine Below.setCell ?_ (by first | omega | (simp <;> omega)) _ | with_reducible refine Below.step2 (by with_reducible assumption) ?_ | with_reducible refine Below.step (by with_reducible assumption) ?_ (by first | omega | (simp <;> omega))))⟩
                 case measure => (simp [intOf]; omega))
              · go_wp2
                go_quiet (first | (go_at_call_of 24 (Value.int .i64 (X1 : Int)); exact quiet_left (WI.out _)))
                go_wp2
                (go_roundw
                 case rel =>
                  have hb0 := HB.out
                  exact ⟨j + 1, by omega, by go_num, by rw [HE.out], (by repeat (first | with_reducible exact Below.refl _ _ | with_reducible assumption | with_reducible refine Below.drew ?_ | with_reducible refine Below.drewN ?_ _ | with_reducible refine Below.alloc2 ?_ _ | with_reducible refine Below.alloc ?_ (by first | omega | (simp <;> omega)) _ | with_reducible refine Below.setCell ?_ (by first | omega | (simp <;> omega)) _ | with_reducible refine Below.step2 (by with_reducible assumption) ?_ | with_reducible refine Below.step (by with_reducible assumption) ?_ (by first | omega | (simp <;> omega))))⟩
                 case measure => (simp [intOf]; omega))
            · have e1 : ((X2 : Int) == (k : Int)) = false := by simp; omega
              have e2 : (X2 == k) = false := by simpa using hk2
              have he2 : heldB sk i k ((X1 : Int), (X2 : Int)) = false := by
                have : ¬ (X2 : Int) = (k : Int) := by omega
                simp [heldB, this]
              rw [he2] at hE
              have HE : Hid ((l.take (j + 1)).any (heldB sk i k) = false) := Lib.hid hE
              clear he2 hE hb hx hk2
              go_wp2
              go_quiet (fail)
              go_wp2
              (go_roundw
               case rel =>
                have hb0 := HB.out
                exact ⟨j + 1, by omega, by go_num, by rw [HE.out], (by repeat (first | with_reducible exact Below.refl _ _ | with_reducible assumption | with_reducible refine Below.drew ?_ | with_reducible refine Below.drewN ?_ _ | with_reducible refine Below.alloc2 ?_ _ | with_reducible refine Below.alloc ?_ (by first | omega | (simp <;> omega)) _ | with_reducible refine Below.setCell ?_ (by first | omega | (simp <;> omega)) _ | with_reducible refine Below.step2 (by with_reducible assumption) ?_ | with_reducible refine Below.step (by with_reducible assumption) ?_ (by first | omega | (simp <;> omega))))⟩
               case measure => (simp [intOf]; omega))
          · rw [Bool.true_or] at hE
            have HE := Lib.hid hE
            clear hE hb hx
            go_wp2
            go_quiet (fail)
            go_wp2
            (go_roundw
             case rel =>
              have hb0 := HB.out
              exact ⟨j + 1, by omega, by go_num, by rw [HE.out], (by repeat (first | with_reducible exact Below.refl _ _ | with_reducible assumption | with_reducible refine Below.drew ?_ | with_reducible refine Below.drewN ?_ _ | with_reducible refine Below.alloc2 ?_ _ | with_reducible refine Below.alloc ?_ (by first | omega | (simp <;> omega)) _ | with_reducible refine Below.setCell ?_ (by first | omega | (simp <;> omega)) _ | with_reducible refine Below.step2 (by with_reducible assumption) ?_ | with_reducible refine Below.step (by with_reducible assumption) ?_ (by first | omega | (simp <;> omega))))⟩
             case measure => (simp [intOf]; omega))
        · obtain rfl : j = k0 := by omega
          have HK : Hid (heldK l sk i k = H) := Lib.hid (by have := HH.out; rwa [List.take_of_length_le (by rw [HLT.out]; exact Nat.le_refl _)] at this)
          cases H
          · have HRn : Hid (rightTo l lv sk ev fr T0 i R0 (k + 1) = R1) := Lib.hid (by simp only [rightTo, HK.out, HR1.out]; rfl)
            have HLn : Hid (lastTo l lv sk i (k + 1) = La) := Lib.hid (by simp only [lastTo, HK.out, HLa.out]; rfl)
            clear hb
            go_wp2
            (go_roundw
             case rel =>
              have hb0 := HB.out
              exact ⟨k + 1, by omega, by go_num, by rw [HRn.out], by rw [HLn.out], (by repeat (first | with_reducible exact Below.refl _ _ | with_reducible assumption | with_reducible refine Below.drew ?_ | with_reducible refine Below.drewN ?_ _ | with_reducible refine Below.alloc2 ?_ _ | with_reducible refine Below.alloc ?_ (by first | omega | (simp <;> omega)) _ | with_reducible refine Below.setCell ?_ (by first | omega | (simp <;> omega)) _ | with_reducible refine Below.step2 (by with_reducible assumption) ?_ | with_reducible refine Below.step (by with_reducible assumption) ?_ (by first | omega | (simp <;> omega))))⟩
             case measure => (simp [intOf]; omega))
          · obtain ⟨b3, o3, L, e3, hbb3, hL, d3⟩ := (HL.out _ (HBS.out.trans (hb.mono HBS.out.size))).at_ hltk
            obtain ⟨rfl, rfl⟩ : b = b3 ∧ o = o3 := by simpa using e3
            have hLvb := HLV.out _ _ hL
            have c0 := HC0.out _ (HBS.out.trans (hb.mono HBS.out.size))
            have ob3 : b < wr.heap.size := by have := HBS.out.size; omega
            have hw1 : IntKind.i64.wrap (L - La) = L - La := IntWalk.i64_in _ (by omega)
            have hw2 : IntKind.i64.wrap (T0 - La) = T0 - La := IntWalk.i64_in _ (by omega)
            have z1 : (0 : Int) ≤ (k : Int) := by omega
            have z2 : (k : Int) < (M : Int) + 1 := by omega
            have HLn : Hid (lastTo l lv sk i (k + 1) = L) := Lib.hid (by simp only [lastTo, HK.out, getD_of hL]; rfl)
            have hRn : rightTo l lv sk ev fr T0 i R0 (k + 1) = (R1 && (decide (L - La ≤ ev) || decide (T0 - La ≤ fr))) := by simp only [rightTo, HK.out, HR1.out, HLa.out, getD_of hL]; rfl
            clear hb hL e3 hbb3
            cases R1
            · have HRn : Hid (rightTo l lv sk ev fr T0 i R0 (k + 1) = false) := Lib.hid (hRn.trans (Bool.false_and _))
              clear hRn
              go_wp2
              go_quiet (fail)
              go_wp2
              (go_roundw
               case rel =>
                have hb0 := HB.out
                exact ⟨k + 1, by omega, by go_num, by rw [HRn.out], by rw [HLn.out], (by repeat (first | with_reducible exact Below.refl _ _ | with_reducible assumption | with_reducible refine Below.drew ?_ | with_reducible refine Below.drewN ?_ _ | with_reducible refine Below.alloc2 ?_ _ | with_reducible refine Below.alloc ?_ (by first | omega | (simp <;> omega)) _ | with_reducible refine Below.setCell ?_ (by first | omega | (simp <;> omega)) _ | with_reducible refine Below.step2 (by with_reducible assumption) ?_ | with_reducible refine Below.step (by with_reducible assumption) ?_ (by first | omega | (simp <;> omega))))⟩
               case measure => (simp [intOf]; omega))
            · rw [Bool.true_and] at hRn
              by_cases q1 : (L - La) ≤ ev
              · have HRn : Hid (rightTo l lv sk ev fr T0 i R0 (k + 1) = true) := Lib.hid (hRn.trans (by simp [q1]))
                have q3 : decide ((L - La) ≤ ev) = true := by simpa using q1
                clear hRn
                go_wp2
                go_quiet (fail)
                go_wp2
                (go_roundw
                 case rel =>
                  have hb0 := HB.out
                  exact ⟨k + 1, by omega, by go_num, by rw [HRn.out], by rw [HLn.out], (by repeat (first | with_reducible exact Below.refl _ _ | with_reducible assumption | with_reducible refine Below.drew ?_ | with_reducible refine Below.drewN ?_ _ | with_reducible refine Below.alloc2 ?_ _ | with_reducible refine Below.alloc ?_ (by first | omega | (simp <;> omega)) _ | with_reducible refine Below.setCell ?_ (by first | omega | (simp <;> omega)) _ | with_reducible refine Below.step2 (by with_reducible assumption) ?_ | with_reducible refine Below.step (by with_reducible assumption) ?_ (by first | omega | (simp <;> omega))))⟩
                 case measure => (simp [intOf]; omega))
              · have q3 : decide ((L - La) ≤ ev) = false := by simpa using q1
                have q4 : ev < (L - La) := by omega
                by_cases q2 : (T0 - La) ≤ fr
                · have HRn : Hid (rightTo l lv sk ev fr T0 i R0 (k + 1) = true) := Lib.hid (hRn.trans (by simp [q2]))
                  have q5 : decide ((T0 - La) ≤ fr) = true := by simpa using q2
                  clear hRn
                  go_wp2
                  go_quiet (fail)
                  go_wp2
                  (go_roundw
                   case rel =>
                    have hb0 := HB.out
                    exact ⟨k + 1, by omega, by go_num, by rw [HRn.out], by rw [HLn.out], (by repeat (first | with_reducible exact Below.refl _ _ | with_reducible assumption | with_reducible refine Below.drew ?_ | with_reducible refine Below.drewN ?_ _ | with_reducible refine Below.alloc2 ?_ _ | with_reducible refine Below.alloc ?_ (by first | omega | (simp <;> omega)) _ | with_reducible refine Below.setCell ?_ (by first | omega | (simp <;> omega)) _ | with_reducible refine Below.step2 (by with_reducible assumption) ?_ | with_reducible refine Below.step (by with_reducible assumption) ?_ (by first | omega | (simp <;> omega))))⟩
                   case measure => (simp [intOf]; omega))
                · have HRn : Hid (rightTo l lv sk ev fr T0 i R0 (k + 1) = false) := Lib.hid (hRn.trans (by simp [q1, q2]))
                  have q5 : decide ((T0 - La) ≤ fr) = false := by simpa using q2
                  have q6 : fr < (T0 - La) := by omega
                  clear hRn
                  go_wp2
                  go_quiet (fail)
                  go_wp2
                  (go_roundw
                   case rel =>
                    have hb0 := HB.out
                    exact ⟨k + 1, by omega, by go_num, by rw [HRn.out], by rw [HLn.out], (by repeat (first | with_reducible exact Below.refl _ _ | with_reducible assumption | with_reducible refine Below.drew ?_ | with_reducible refine Below.drewN ?_ _ | with_reducible refine Below.alloc2 ?_ _ | with_reducible refine Below.alloc ?_ (by first | omega | (simp <;> omega)) _ | with_reducible refine Below.setCell ?_ (by first | omega | (simp <;> omega)) _ | with_reducible refine Below.step2 (by with_reducible assumption) ?_ | with_reducible refine Below.step (by with_reducible assumption) ?_ (by first | omega | (simp <;> omega))))⟩
                   case measure => (simp [intOf]; omega))
      · obtain rfl : k = M + 1 := by omega
        have c0 := HC0.out _ (HBS.out.trans (hb.mono HBS.out.size))
        have ob3 : b < wr.heap.size := by have := HBS.out.size; omega
        have hw2 : IntKind.i64.wrap (T0 - La) = T0 - La := IntWalk.i64_in _ (by omega)
        have hRn : rightAll l lv sk ev fr T0 (M + 1) (i + 1) = (R1 && decide (T0 - La ≤ fr)) := by simp only [rightAll, HR0.out, HR1.out, HLa.out]
        clear hb
        cases R1
        · have HRn : Hid (rightAll l lv sk ev fr T0 (M + 1) (i + 1) = false) := Lib.hid (hRn.trans (Bool.false_and _))
          clear hRn
          go_wp2
          go_quiet (fail)
          go_wp2
          (go_roundw
           case rel =>
            have hb0 := HB.out
            exact ⟨i + 1, by omega, by go_num, by rw [HRn.out], (by repeat (first | with_reducible exact Below.refl _ _ | with_reducible assumption | with_reducible refine Below.drew ?_ | with_reducible refine Below.drewN ?_ _ | with_reducible refine Below.alloc2 ?_ _ | with_reducible refine Below.alloc ?_ (by first | omega | (simp <;> omega)) _ | with_reducible refine Below.setCell ?_ (by first | omega | (simp <;> omega)) _ | with_reducible refine Below.step2 (by with_reducible assumption) ?_ | with_reducible refine Below.step (by with_reducible assumption) ?_ (by first | omega | (simp <;> omega))))⟩
           case measure => (simp [intOf]; omega))
        · rw [Bool.true_and] at hRn
          by_cases q2 : (T0 - La) ≤ fr
          · have HRn : Hid (rightAll l lv sk ev fr T0 (M + 1) (i + 1) = true) := Lib.hid (hRn.trans (by simp [q2]))
            have q5 : decide ((T0 - La) ≤ fr) = true := by simpa using q2
            clear hRn
            go_wp2
            go_quiet (fail)
            go_wp2
            (go_roundw
             case rel =>
              have hb0 := HB.out
              exact ⟨i + 1, by omega, by go_num, by rw [HRn.out], (by repeat (first | with_reducible exact Below.refl _ _ | with_reducible assumption | with_reducible refine Below.drew ?_ | with_reducible refine Below.drewN ?_ _ | with_reducible refine Below.alloc2 ?_ _ | with_reducible refine Below.alloc ?_ (by first | omega | (simp <;> omega)) _ | with_reducible refine Below.setCell ?_ (by first | omega | (simp <;> omega)) _ | with_reducible refine Below.step2 (by with_reducible assumption) ?_ | with_reducible refine Below.step (by with_reducible assumption) ?_ (by first | omega | (simp <;> omega))))⟩
             case measure => (simp [intOf]; omega))
          · have HRn : Hid (rightAll l lv sk ev fr T0 (M + 1) (i + 1) = false) := Lib.hid (hRn.trans (by simp [q2]))
            have q5 : decide ((T0 - La) ≤ fr) = false := by simpa using q2
            have q6 : fr < (T0 - La) := by omega
            clear hRn
            go_wp2
            go_quiet (fail)
            go_wp2
            (go_roundw
             case rel =>
              have hb0 := HB.out
              exact ⟨i + 1, by omega, by go_num, by rw [HRn.out], (by repeat (first | with_reducible exact Below.refl _ _ | with_reducible assumption | with_reducible refine Below.drew ?_ | with_reducible refine Below.drewN ?_ _ | with_reducible refine Below.alloc2 ?_ _ | with_reducible refine Below.alloc ?_ (by first | omega | (simp <;> omega)) _ | with_reducible refine Below.setCell ?_ (by first | omega | (simp <;> omega)) _ | with_reducible refine Below.step2 (by with_reducible assumption) ?_ | with_reducible refine Below.step (by with_reducible assumption) ?_ (by first | omega | (simp <;> omega))))⟩
             case measure => (simp [intOf]; omega))
    · obtain rfl : i = n := by omega
      have HBW : Hid (Below w.heap.size w wr) := Lib.hid (HBS.out.trans (hb.mono HBS.out.size))
      rw [HR0.out] at CH
      clear hb
      cases R0
      · (go_wp2_with (go_at_call 11; with_reducible refine (CH.out _ ?_).mono ?_; (focus (exact HBW.out)); rintro e w1 ⟨hb1, x, y, P, pc, rfl⟩; have oz1 := hb1.size; (try simp at oz1))
         go_ret
         have hb0 := HBW.out
         exact ⟨(by repeat (first | with_reducible exact Below.refl _ _ | with_reducible assumption | with_reducible refine Below.drew ?_ | with_reducible refine Below.drewN ?_ _ | with_reducible refine Below.alloc2 ?_ _ | with_reducible refine Below.alloc ?_ (by first | omega | (simp <;> omega)) _ | with_reducible refine Below.setCell ?_ (by first | omega | (simp <;> omega)) _ | with_reducible refine Below.step2 (by with_reducible assumption) ?_ | with_reducible refine Below.step (by with_reducible assumption) ?_ (by first | omega | (simp <;> omega)))), rfl⟩)
      · (go_wp2_with (go_at_call 11; with_reducible refine (CH.out _ ?_).mono ?_; (focus (exact HBW.out)); rintro e w1 ⟨hb1, x, y, P, pc, rfl⟩; have oz1 := hb1.size; (try simp at oz1))
         go_ret
         have hb0 := HBW.out
         exact ⟨(by repeat (first | with_reducible exact Below.refl _ _ | with_reducible assumption | with_reducible refine Below.drew ?_ | with_reducible refine Below.drewN ?_ _ | with_reducible refine Below.alloc2 ?_ _ | with_reducible refine Below.alloc ?_ (by first | omega | (simp <;> omega)) _ | with_reducible refine Below.setCell ?_ (by first | omega | (simp <;> omega)) _ | with_reducible refine Below.step2 (by with_reducible assumption) ?_ | with_reducible refine Below.step (by with_reducible assumption) ?_ (by first | omega | (simp <;> omega)))), rfl⟩)
  · have hWb : (WE != 0) = true := by simpa using h0
    clear c1 c2' c3 c5 ha hl ht hG hTE hfb hWE h0
    (
        go_enter Tryz.func7, Tryz.ntmps7
        go_wp2_with (first
    | (go_at_call 8; with_reducible refine (awake_true _).mono ?_; rintro e w1 ⟨hb1, rfl⟩; have kg : Bk w1 w.heap.size 24 #[.int .i64 f, .slice A n c, .slice A2 m c2] := (by repeat (first | with_reducible assumption | with_reducible exact Bk.at_ (by first | (simp; done) | omega) | with_reducible refine Bk.alloc ?_ _ | with_reducible refine Bk.drew ?_ | with_reducible refine Bk.drewN ?_ _ | with_reducible refine Bk.step (by with_reducible assumption) ?_ (by first | omega | (simp <;> omega)))); have kr : Bk w1 (w.heap.size + 1) 26 #[.int .i64 ev, .int .i64 fr, .int .i64 sk, .int .i64 ma, .int .i64 st] := (by repeat (first | with_reducible assumption | with_reducible exact Bk.at_ (by first | (simp; done) | omega) | with_reducible refine Bk.alloc ?_ _ | with_reducible refine Bk.drew ?_ | with_reducible refine Bk.drewN ?_ _ | with_reducible refine Bk.step (by with_reducible assumption) ?_ (by first | omega | (simp <;> omega)))); obtain ⟨⟨g0, g1, g2⟩, -⟩ := kg.three; obtain ⟨r0, r1, r2, r3, r4⟩ := kr.five; have oz1 := hb1.size; (try simp at oz1))
    | (go_at_call 9; with_reducible refine (CF.out _ ?_).mono ?_; (focus (exact (by repeat (first | with_reducible exact Below.refl _ _ | with_reducible assumption | with_reducible refine Below.drew ?_ | with_reducible refine Below.drewN ?_ _ | with_reducible refine Below.alloc2 ?_ _ | with_reducible refine Below.alloc ?_ (by first | omega | (simp <;> omega)) _ | with_reducible refine Below.setCell ?_ (by first | omega | (simp <;> omega)) _ | with_reducible refine Below.step2 (by with_reducible assumption) ?_ | with_reducible refine Below.step (by with_reducible assumption) ?_ (by first | omega | (simp <;> omega)))))); rintro e w1 ⟨hb1, rfl⟩; have kg : Bk w1 w.heap.size 24 #[.int .i64 f, .slice A n c, .slice A2 m c2] := (by repeat (first | with_reducible assumption | with_reducible exact Bk.at_ (by first | (simp; done) | omega) | with_reducible refine Bk.alloc ?_ _ | with_reducible refine Bk.drew ?_ | with_reducible refine Bk.drewN ?_ _ | with_reducible refine Bk.step (by with_reducible assumption) ?_ (by first | omega | (simp <;> omega)))); have kr : Bk w1 (w.heap.size + 1) 26 #[.int .i64 ev, .int .i64 fr, .int .i64 sk, .int .i64 ma, .int .i64 st] := (by repeat (first | with_reducible assumption | with_reducible exact Bk.at_ (by first | (simp; done) | omega) | with_reducible refine Bk.alloc ?_ _ | with_reducible refine Bk.drew ?_ | with_reducible refine Bk.drewN ?_ _ | with_reducible refine Bk.step (by with_reducible assumption) ?_ (by first | omega | (simp <;> omega)))); obtain ⟨⟨g0, g1, g2⟩, -⟩ := kg.three; obtain ⟨r0, r1, r2, r3, r4⟩ := kr.five; have oz1 := hb1.size; (try simp at oz1))
            | (go_at_call 12; with_reducible refine (CW.out _ ?_).mono ?_; (focus (exact (by repeat (first | with_reducible exact Below.refl _ _ | with_reducible assumption | with_reducible refine Below.drew ?_ | with_reducible refine Below.drewN ?_ _ | with_reducible refine Below.alloc2 ?_ _ | with_reducible refine Below.alloc ?_ (by first | omega | (simp <;> omega)) _ | with_reducible refine Below.setCell ?_ (by first | omega | (simp <;> omega)) _ | with_reducible refine Below.step2 (by with_reducible assumption) ?_ | with_reducible refine Below.step (by with_reducible assumption) ?_ (by first | omega | (simp <;> omega)))))); rintro e w1 ⟨hb1, rfl⟩; have kg : Bk w1 w.heap.size 24 #[.int .i64 f, .slice A n c, .slice A2 m c2] := (by repeat (first | with_reducible assumption | with_reducible exact Bk.at_ (by first | (simp; done) | omega) | with_reducible refine Bk.alloc ?_ _ | with_reducible refine Bk.drew ?_ | with_reducible refine Bk.drewN ?_ _ | with_reducible refine Bk.step (by with_reducible assumption) ?_ (by first | omega | (simp <;> omega)))); have kr : Bk w1 (w.heap.size + 1) 26 #[.int .i64 ev, .int .i64 fr, .int .i64 sk, .int .i64 ma, .int .i64 st] := (by repeat (first | with_reducible assumption | with_reducible exact Bk.at_ (by first | (simp; done) | omega) | with_reducible refine Bk.alloc ?_ _ | with_reducible refine Bk.drew ?_ | with_reducible refine Bk.drewN ?_ _ | with_reducible refine Bk.step (by with_reducible assumption) ?_ (by first | omega | (simp <;> omega)))); obtain ⟨⟨g0, g1, g2⟩, -⟩ := kg.three; obtain ⟨r0, r1, r2, r3, r4⟩ := kr.five; have oz1 := hb1.size; (try simp at oz1)))
        go_ret
        exact ⟨(by repeat (first | with_reducible exact Below.refl _ _ | with_reducible assumption | with_reducible refine Below.drew ?_ | with_reducible refine Below.drewN ?_ _ | with_reducible refine Below.alloc2 ?_ _ | with_reducible refine Below.alloc ?_ (by first | omega | (simp <;> omega)) _ | with_reducible refine Below.setCell ?_ (by first | omega | (simp <;> omega)) _ | with_reducible refine Below.step2 (by with_reducible assumption) ?_ | with_reducible refine Below.step (by with_reducible assumption) ?_ (by first | omega | (simp <;> omega)))), rfl⟩)

end Go.Proofs.YtgljncfijcamhaaGreatDoor
