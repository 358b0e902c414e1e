/- Chapter 9, walks: Account and Invoice of the program, Check of the reference. -/
import Derived.Test.YtbeijeblbchglaaAcct9
import Derived.Test.YtbeijeblbchglaaRefMoves9
namespace Go.Proofs.Ytbeijeblbchglaa
open Go.RowKit Go.WideShapes Go.Deep

set_option maxHeartbeats 1000000 in
theorem refCheck_any (T A : Option Addr) (tn tc n c : Nat) (t : List Q4) (l : List Mv) (w : World) (ht : Rws Q4.cs 4 w w.heap.size T tn tc t) (h : Rws Mv.cs 4 w w.heap.size A n c l) (hts : ∀ x ∈ t, x.s.size ≤ 30) :
    Calls Try.prog 36 #[.slice T tn tc, .slice A n c] w fun e w' => Below w.heap.size w w' ∧ e = .returned (.int .i64 (checkErr t l)) := by
  obtain ⟨F, hF⟩ : ∃ F, termErr t = F := ⟨_, rfl⟩
  obtain ⟨G, hG⟩ : ∃ G, moveErr t l = G := ⟨_, rfl⟩
  have CT : Hid (Calls Try.prog 20 #[.slice T tn tc] w fun e w' => Below w.heap.size w w' ∧ e = .returned (.int .i64 F)) := Lib.hid (by
    have := refCheckTerms_any T tn tc t w ht hts
    rwa [hF] at this)
  have CM : Hid (∀ W, Below w.heap.size w W → Calls Try.prog 23 #[.slice T tn tc, .slice A n c] W fun e w' => Below W.heap.size W w' ∧ e = .returned (.int .i64 G)) := Lib.hid fun W hW => by
    have := refCheckMoves_any A T n c tn tc t l W (ht.below hW (Nat.le_refl _) hW.size) (h.below hW (Nat.le_refl _) hW.size)
    rwa [hG] at this
  unfold checkErr
  rw [hF, hG]
  clear ht h hts hF hG
  by_cases h0 : F = 0
  · rw [if_pos h0]
    subst h0
    go_enter Try.func36, Try.ntmps36
    go_wp2_with (first | (go_at_call 20; refine CT.out.mono ?_; rintro e w1 ⟨hb1, rfl⟩; have HB1 := Lib.hid hb1; clear hb1) | (go_at_call 23; refine (CM.out _ HB1.out).mono ?_; rintro e w2 ⟨hb2, rfl⟩; have HB2 : Hid (Below w.heap.size w w2) := Lib.hid (Below.step2 hb2 HB1.out); clear hb2))
    go_ret
    exact ⟨HB2.out, rfl⟩
  · rw [if_neg h0]
    have d0 : (F != 0) = true := by simpa using h0
    go_enter Try.func36, Try.ntmps36
    go_wp2_with (first | (go_at_call 20; refine CT.out.mono ?_; rintro e w1 ⟨hb1, rfl⟩; have HB1 := Lib.hid hb1; clear hb1))
    go_ret
    exact ⟨HB1.out, rfl⟩

/-- The error of the days of a time. -/
def dErr (a b : Int) : Int := if (dayB a && dayB b) = true then (if b < a then 10 else 0) else 2
set_option maxHeartbeats 1000000 in
theorem daysError_any (a b : Int) (w : World) :
    Calls Try.prog 70 #[.int .i64 a, .int .i64 b] w fun e w' => Below w.heap.size w w' ∧ e = .returned (.int .i64 (dErr a b)) := by
  obtain ⟨b1, e1⟩ : ∃ v, dayB a = v := ⟨_, rfl⟩
  obtain ⟨b2, e2⟩ : ∃ v, dayB b = v := ⟨_, rfl⟩
  have B1 := Lib.hid e1
  have B2 := Lib.hid e2
  unfold dErr
  rw [e1, e2]
  clear e1 e2
  cases b1
  · rw [if_neg (by simp)]
    go_enter Try.func70, Try.ntmps70
    go_wp2_with (first | (go_at_call 64; with_reducible refine (isDay_b B1.out _).mono ?_; rintro e w1 ⟨hb1, rfl⟩; have oz1 := hb1.size) | (go_at_call 64; with_reducible refine (isDay_b B2.out _).mono ?_; rintro e w2 ⟨hb2, rfl⟩; have oz2 := hb2.size))
    go_ret
    exact ⟨(by repeat (first | with_reducible exact Below.refl _ _ | with_reducible assumption | with_reducible refine Below.drew ?_ | with_reducible refine Below.drewN ?_ _ | with_reducible refine Below.alloc2 ?_ _ | with_reducible refine Below.alloc ?_ (by first | omega | (simp <;> omega)) _ | with_reducible refine Below.setCell ?_ (by first | omega | (simp <;> omega)) _ | with_reducible refine Below.step2 (by with_reducible assumption) ?_ | with_reducible refine Below.step (by with_reducible assumption) ?_ (by first | omega | (simp <;> omega)))), rfl⟩
  cases b2
  · rw [if_neg (by simp)]
    go_enter Try.func70, Try.ntmps70
    go_wp2_with (first | (go_at_call 64; with_reducible refine (isDay_b B1.out _).mono ?_; rintro e w1 ⟨hb1, rfl⟩; have oz1 := hb1.size) | (go_at_call 64; with_reducible refine (isDay_b B2.out _).mono ?_; rintro e w2 ⟨hb2, rfl⟩; have oz2 := hb2.size))
    go_ret
    exact ⟨(by repeat (first | with_reducible exact Below.refl _ _ | with_reducible assumption | with_reducible refine Below.drew ?_ | with_reducible refine Below.drewN ?_ _ | with_reducible refine Below.alloc2 ?_ _ | with_reducible refine Below.alloc ?_ (by first | omega | (simp <;> omega)) _ | with_reducible refine Below.setCell ?_ (by first | omega | (simp <;> omega)) _ | with_reducible refine Below.step2 (by with_reducible assumption) ?_ | with_reducible refine Below.step (by with_reducible assumption) ?_ (by first | omega | (simp <;> omega)))), rfl⟩
  rw [if_pos (by rfl)]
  by_cases h : b < a
  · rw [if_pos h]
    go_enter Try.func70, Try.ntmps70
    go_wp2_with (first | (go_at_call 64; with_reducible refine (isDay_b B1.out _).mono ?_; rintro e w1 ⟨hb1, rfl⟩; have oz1 := hb1.size) | (go_at_call 64; with_reducible refine (isDay_b B2.out _).mono ?_; rintro e w2 ⟨hb2, rfl⟩; have oz2 := hb2.size))
    go_ret
    exact ⟨(by repeat (first | with_reducible exact Below.refl _ _ | with_reducible assumption | with_reducible refine Below.drew ?_ | with_reducible refine Below.drewN ?_ _ | with_reducible refine Below.alloc2 ?_ _ | with_reducible refine Below.alloc ?_ (by first | omega | (simp <;> omega)) _ | with_reducible refine Below.setCell ?_ (by first | omega | (simp <;> omega)) _ | with_reducible refine Below.step2 (by with_reducible assumption) ?_ | with_reducible refine Below.step (by with_reducible assumption) ?_ (by first | omega | (simp <;> omega)))), rfl⟩
  · rw [if_neg h]
    go_enter Try.func70, Try.ntmps70
    go_wp2_with (first | (go_at_call 64; with_reducible refine (isDay_b B1.out _).mono ?_; rintro e w1 ⟨hb1, rfl⟩; have oz1 := hb1.size) | (go_at_call 64; with_reducible refine (isDay_b B2.out _).mono ?_; rintro e w2 ⟨hb2, rfl⟩; have oz2 := hb2.size))
    go_ret
    exact ⟨(by repeat (first | with_reducible exact Below.refl _ _ | with_reducible assumption | with_reducible refine Below.drew ?_ | with_reducible refine Below.drewN ?_ _ | with_reducible refine Below.alloc2 ?_ _ | with_reducible refine Below.alloc ?_ (by first | omega | (simp <;> omega)) _ | with_reducible refine Below.setCell ?_ (by first | omega | (simp <;> omega)) _ | with_reducible refine Below.step2 (by with_reducible assumption) ?_ | with_reducible refine Below.step (by with_reducible assumption) ?_ (by first | omega | (simp <;> omega)))), rfl⟩

/-- The error of an account. -/
def acErr (t : List Q4) (l : List Mv) (day : Int) : Int := if checkErr t l = 0 then (if dayB day = true then 0 else 2) else checkErr t l
set_option maxHeartbeats 2000000 in
theorem account_bad (T A : Option Addr) (tn tc n c : Nat) (t : List Q4) (l : List Mv) (day : Int) (w : World) (ht : Rws Q4.cs 4 w w.heap.size T tn tc t) (h : Rws Mv.cs 4 w w.heap.size A n c l) (hts : ∀ x ∈ t, x.s.size ≤ 30) (hs : ∀ x ∈ l, x.p.size ≤ 30) (hE : acErr t l day ≠ 0) :
    Calls Try.prog 33 #[.slice T tn tc, .slice A n c, .int .i64 day] w fun e w' => Below w.heap.size w w' ∧ e = .returned (.tuple #[.slice none 0 0, .int .i64 (acErr t l day)]) := by
  have CM : Hid (Calls Try.prog 26 #[.slice T tn tc, .slice A n c] w fun e w' => Below w.heap.size w w' ∧ e = .returned (.int .i64 (checkErr t l))) := Lib.hid (checkMoves_any A T n c tn tc t l w ht h hts hs)
  unfold acErr at hE ⊢
  obtain ⟨E, hE1⟩ : ∃ E, checkErr t l = E := ⟨_, rfl⟩
  rw [hE1] at CM hE ⊢
  clear ht h hts hs hE1
  by_cases h0 : E = 0
  · rw [if_pos h0] at hE ⊢
    subst h0
    obtain ⟨v, hv⟩ : ∃ v, dayB day = v := ⟨_, rfl⟩
    have HV := Lib.hid hv
    rw [hv] at hE ⊢
    clear hv
    cases v
    · rw [if_neg (by simp)]
      clear hE
      go_enter Try.func33, Try.ntmps33
      go_wp2_with (first | (go_at_call 26; refine CM.out.mono ?_; rintro e w1 ⟨hb1, rfl⟩; have HB1 := Lib.hid hb1; have ow1 := hb1.size; clear hb1) | (go_at_call 64; with_reducible refine (isDay_b HV.out _).mono ?_; rintro e w2 ⟨hb2, rfl⟩; have HB2 : Hid (Below w.heap.size w w2) := Lib.hid (Below.step2 hb2 HB1.out); clear hb2))
      go_ret2
      exact ⟨HB2.out, rfl⟩
    · exact absurd rfl hE
  · rw [if_neg h0] at hE ⊢
    have d0 : (E != 0) = true := by simpa using h0
    clear hE
    go_enter Try.func33, Try.ntmps33
    go_wp2_with (first | (go_at_call 26; refine CM.out.mono ?_; rintro e w1 ⟨hb1, rfl⟩; have HB1 := Lib.hid hb1; have ow1 := hb1.size; clear hb1))
    go_ret2
    exact ⟨HB1.out, rfl⟩
set_option maxHeartbeats 2000000 in
theorem account_ok (T A : Option Addr) (tn tc n c : Nat) (t : List Q4) (l : List Mv) (day : Int) (w : World) (ht : Rws Q4.cs 4 w w.heap.size T tn tc t) (h : Rws Mv.cs 4 w w.heap.size A n c l) (hts : ∀ x ∈ t, x.s.size ≤ 30) (hs : ∀ x ∈ l, x.p.size ≤ 30) (hE : checkErr t l = 0) (hd : dayB day = true) :
    Calls Try.prog 33 #[.slice T tn tc, .slice A n c, .int .i64 day] w fun e w' => Below w.heap.size w w' ∧ ∃ v, e = .returned (.tuple #[v, .int .i64 0]) ∧ w'.ownsRow w.heap.size 85 4 v (chgs t (upM l day) day).length ((chgs t (upM l day) day).flatMap Q4.cs) := by
  have CM : Hid (Calls Try.prog 26 #[.slice T tn tc, .slice A n c] w fun e w' => Below w.heap.size w w' ∧ e = .returned (.int .i64 (checkErr t l))) := Lib.hid (checkMoves_any A T n c tn tc t l w ht h hts hs)
  have AC : Hid (∀ W, Below w.heap.size w W → Calls Try.prog 66 #[.slice T tn tc, .slice A n c, .int .i64 day] W fun e w' => Below W.heap.size W w' ∧ ∃ v, e = .returned v ∧ w'.ownsRow W.heap.size 85 4 v (chgs t (upM l day) day).length ((chgs t (upM l day) day).flatMap Q4.cs)) := Lib.hid fun W hW =>
    accountOf_any T A tn tc n c t l day W (ht.below hW (Nat.le_refl _) hW.size) (h.below hW (Nat.le_refl _) hW.size) (Good.of hE) hd
  rw [hE] at CM
  have HV := Lib.hid hd
  clear ht h hts hs hE hd
  go_enter Try.func33, Try.ntmps33
  go_wp2_with (first | (go_at_call 26; refine CM.out.mono ?_; rintro e w1 ⟨hb1, rfl⟩; have HB1 := Lib.hid hb1; have ow1 := hb1.size; clear hb1) | (go_at_call 64; with_reducible refine (isDay_b HV.out _).mono ?_; rintro e w2 ⟨hb2, rfl⟩; have HB2 : Hid (Below w.heap.size w w2) := Lib.hid (Below.step2 hb2 HB1.out); clear hb2) | (go_at_call 66; refine (AC.out _ HB2.out).mono ?_; rintro e w3 ⟨hb3, v, rfl, hown⟩; have HO3 := Lib.hid (own_base hown HB2.out.size); have HB3 : Hid (Below w.heap.size w w3) := Lib.hid (Below.step2 hb3 HB2.out); clear hown hb3))
  go_ret2
  exact ⟨HB3.out, _, rfl, HO3.out⟩

/-- The error of an invoice. -/
def inErr (t : List Q4) (l : List Mv) (a b : Int) : Int := if checkErr t l = 0 then dErr a b else checkErr t l
set_option maxHeartbeats 2000000 in
theorem invoice_bad (T A : Option Addr) (tn tc n c : Nat) (t : List Q4) (l : List Mv) (a b : Int) (w : World) (ht : Rws Q4.cs 4 w w.heap.size T tn tc t) (h : Rws Mv.cs 4 w w.heap.size A n c l) (hts : ∀ x ∈ t, x.s.size ≤ 30) (hs : ∀ x ∈ l, x.p.size ≤ 30) (hE : inErr t l a b ≠ 0) :
    Calls Try.prog 43 #[.slice T tn tc, .slice A n c, .int .i64 a, .int .i64 b] w fun e w' => Below w.heap.size w w' ∧ e = .returned (.tuple #[.int .i64 0, .int .i64 (inErr t l a b)]) := by
  have CM : Hid (Calls Try.prog 26 #[.slice T tn tc, .slice A n c] w fun e w' => Below w.heap.size w w' ∧ e = .returned (.int .i64 (checkErr t l))) := Lib.hid (checkMoves_any A T n c tn tc t l w ht h hts hs)
  unfold inErr at hE ⊢
  obtain ⟨E, hE1⟩ : ∃ E, checkErr t l = E := ⟨_, rfl⟩
  obtain ⟨F, hF1⟩ : ∃ E, dErr a b = E := ⟨_, rfl⟩
  have HF := Lib.hid hF1
  rw [hE1, hF1] at hE ⊢
  rw [hE1] at CM
  clear ht h hts hs hE1 hF1
  by_cases h0 : E = 0
  · rw [if_pos h0] at hE ⊢
    subst h0
    have d0 : (F != 0) = true := by simpa using hE
    clear hE
    go_enter Try.func43, Try.ntmps43
    go_wp2_with (first | (go_at_call 26; refine CM.out.mono ?_; rintro e w1 ⟨hb1, rfl⟩; have HB1 := Lib.hid hb1; have ow1 := hb1.size; clear hb1) | (go_at_call 70; with_reducible refine (daysError_any a b _).mono ?_; rw [HF.out]; rintro e w2 ⟨hb2, rfl⟩; have HB2 : Hid (Below w.heap.size w w2) := Lib.hid (Below.step2 hb2 HB1.out); clear hb2))
    go_ret2
    exact ⟨HB2.out, rfl⟩
  · rw [if_neg h0] at hE ⊢
    have d0 : (E != 0) = true := by simpa using h0
    clear hE
    go_enter Try.func43, Try.ntmps43
    go_wp2_with (first | (go_at_call 26; refine CM.out.mono ?_; rintro e w1 ⟨hb1, rfl⟩; have HB1 := Lib.hid hb1; have ow1 := hb1.size; clear hb1))
    go_ret2
    exact ⟨HB1.out, rfl⟩
theorem dErr_zero {a b : Int} (h : dErr a b = 0) : dayB a = true ∧ dayB b = true ∧ a ≤ b := by
  unfold dErr at h
  split at h
  · rename_i h1
    simp only [Bool.and_eq_true] at h1
    split at h
    · cases h
    · exact ⟨h1.1, h1.2, by omega⟩
  · cases h
/-- The sum of the account of a day. -/
def accS (t : List Q4) (l : List Mv) (day : Int) : Int := sumC (chgs t (upM l day) day)
theorem accS_bd {t : List Q4} {l : List Mv} (hg : Good t l) (hn : t.length * l.length ≤ 2000) {day : Int} (hd : dayB day = true) : 0 ≤ accS t l day ∧ accS t l day ≤ 2000000000000000000 := by
  have h1 := hg.chgs_amt (dayB_iff.1 hd)
  have h2 := hg.chgs_len day
  have := sumC_tbd h1 (chgs t (upM l day) day).length (by omega)
  rwa [List.take_length] at this
set_option maxRecDepth 100000 in
set_option maxHeartbeats 4000000 in
theorem invoice_ok (T A : Option Addr) (tn tc n c : Nat) (t : List Q4) (l : List Mv) (a b : Int) (w : World) (ht : Rws Q4.cs 4 w w.heap.size T tn tc t) (h : Rws Mv.cs 4 w w.heap.size A n c l) (hts : ∀ x ∈ t, x.s.size ≤ 30) (hs : ∀ x ∈ l, x.p.size ≤ 30) (hE : checkErr t l = 0) (hD : dErr a b = 0) (hn : t.length * l.length ≤ 2000) :
    Calls Try.prog 43 #[.slice T tn tc, .slice A n c, .int .i64 a, .int .i64 b] w fun e w' => Below w.heap.size w w' ∧ e = .returned (.tuple #[.int .i64 (accS t l b - accS t l a), .int .i64 0]) := by
  have CM : Hid (Calls Try.prog 26 #[.slice T tn tc, .slice A n c] w fun e w' => Below w.heap.size w w' ∧ e = .returned (.int .i64 (checkErr t l))) := Lib.hid (checkMoves_any A T n c tn tc t l w ht h hts hs)
  have hg := Good.of hE
  obtain ⟨ha, hb, hab⟩ := dErr_zero hD
  have AC : Hid (∀ day W, dayB day = true → Below w.heap.size w W → Calls Try.prog 66 #[.slice T tn tc, .slice A n c, .int .i64 day] W fun e w' => Below W.heap.size W w' ∧ ∃ v, e = .returned v ∧ w'.ownsRow W.heap.size 85 4 v (chgs t (upM l day) day).length ((chgs t (upM l day) day).flatMap Q4.cs)) := Lib.hid fun day W hd hW =>
    accountOf_any T A tn tc n c t l day W (ht.below hW (Nat.le_refl _) hW.size) (h.below hW (Nat.le_refl _) hW.size) hg hd
  have SU : Hid (∀ day A n c W, dayB day = true → Rws Q4.cs 4 W W.heap.size A n c (chgs t (upM l day) day) → Calls Try.prog 69 #[.slice A n c] W fun e w' => Below W.heap.size W w' ∧ e = .returned (.int .i64 (accS t l day))) := Lib.hid fun day A n c W hd hr =>
    sumOf_any A n c _ W hr (hg.chgs_amt (dayB_iff.1 hd)) (by rw [← hr.len]; exact Nat.le_trans (hg.chgs_len day) hn)
  have ba := accS_bd hg hn ha
  have bb := accS_bd hg hn hb
  rw [hE] at CM
  have HA := Lib.hid ha
  have HBD := Lib.hid hb
  have HD := Lib.hid hD
  obtain ⟨Sa, hSa⟩ : ∃ S, accS t l a = S := ⟨_, rfl⟩
  obtain ⟨Sb, hSb⟩ : ∃ S, accS t l b = S := ⟨_, rfl⟩
  have HSA := Lib.hid hSa
  have HSB := Lib.hid hSb
  rw [hSa] at ba ⊢
  rw [hSb] at bb ⊢
  have hw1 : IntKind.i64.wrap (Sb - Sa) = Sb - Sa := IntWalk.i64_in _ (by omega)
  clear ht h hts hs hE hD ha hb hg hn hSa hSb hab ba bb
  go_enter Try.func43, Try.ntmps43
  go_wp2_with (first
    | (go_at_call 26; refine CM.out.mono ?_; rintro e w1 ⟨hb1, rfl⟩; have HB1 := Lib.hid hb1; have ow1 := hb1.size; clear hb1)
    | (go_at_call 70; with_reducible refine (daysError_any a b _).mono ?_; rw [HD.out]; rintro e w2 ⟨hb2, rfl⟩; have HB2 : Hid (Below w.heap.size w w2) := Lib.hid (Below.step2 hb2 HB1.out); clear hb2)
    | (go_at_call 66; with_reducible refine (AC.out b _ HBD.out HB2.out).mono ?_; rintro e w3 ⟨hb3, v, rfl, hown⟩; obtain ⟨A3, c3, rfl, hr⟩ := Rws.of_own hown rfl; have HR3 := Lib.hid hr; have HB3 : Hid (Below w.heap.size w w3) := Lib.hid (Below.step2 hb3 HB2.out); clear hown hb3 hr)
    | (go_at_call 69; with_reducible refine (SU.out b _ _ _ _ HBD.out HR3.out).mono ?_; rw [HSB.out]; rintro e w4 ⟨hb4, rfl⟩; have HB4 : Hid (Below w.heap.size w w4) := Lib.hid (Below.step2 hb4 HB3.out); clear hb4)
    | (go_at_call 66; with_reducible refine (AC.out a _ HA.out HB4.out).mono ?_; rintro e w5 ⟨hb5, v, rfl, hown⟩; obtain ⟨A5, c5, rfl, hr⟩ := Rws.of_own hown rfl; have HR5 := Lib.hid hr; have HB5 : Hid (Below w.heap.size w w5) := Lib.hid (Below.step2 hb5 HB4.out); clear hown hb5 hr)
    | (go_at_call 69; with_reducible refine (SU.out a _ _ _ _ HA.out HR5.out).mono ?_; rw [HSA.out]; rintro e w6 ⟨hb6, rfl⟩; have HB6 : Hid (Below w.heap.size w w6) := Lib.hid (Below.step2 hb6 HB5.out); clear hb6))
  go_ret2
  exact ⟨HB6.out, rfl⟩

end Go.Proofs.Ytbeijeblbchglaa
