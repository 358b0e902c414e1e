/- Chapter 9, walks: gain, moveError of the program. -/
import Derived.Test.YtbeijeblbchglaaTerms9
namespace Go.Proofs.Ytbeijeblbchglaa
open Go.RowKit Go.Maps

/-- How many more pieces are on hire by a move; by moves; the last day; the error of a move behind others. -/
def gn (x : Mv) : Int := if x.k = 0 then x.n else -x.n
def stock (l : List Mv) (p : ByteArray) : Int := (l.map fun x => if eqS x.p p then gn x else 0).sum
def lastD (l : List Mv) : Int := (l.getLast?.map (·.d)).getD 0
def mvB (x : Mv) : Bool := dayB x.d && (inR 0 2 x.k && inR 1 100000 x.n)
def mEr (b1 b2 b3 b4 b5 b6 : Bool) : Int := if b1 && (b2 && b3) then (if b4 then 10 else if b5 then (if b6 then 22 else 0) else 6) else 2
def mE (t : List Q4) (seen : List Mv) (x : Mv) : Int := mEr (dayB x.d) (inR 0 2 x.k) (inR 1 100000 x.n) (decide (x.d < lastD seen)) (hasT t x.p) (decide (stock seen x.p + gn x < 0))
def mGo (t : List Q4) : List Mv → List Mv → Int
  | _, [] => 0
  | seen, x :: r => if mE t seen x = 0 then mGo t (seen ++ [x]) r else mE t seen x
def moveErr (t : List Q4) (l : List Mv) : Int := if 300 < l.length then 8 else mGo t [] l
def checkErr (t : List Q4) (l : List Mv) : Int := if termErr t = 0 then moveErr t l else termErr t
theorem mGo_bad {t : List Q4} {l : List Mv} {k : Nat} {x : Mv} {E : Int} (hx : l[k]? = some x) (h : mGo t [] l = mGo t (l.take k) (l.drop k)) (he : mE t (l.take k) x = E) (h0 : E ≠ 0) : mGo t [] l = E := by
  rw [h, drop_step hx]
  subst he
  simp only [mGo, if_neg h0]
theorem mGo_next {t : List Q4} {l : List Mv} {k : Nat} {x : Mv} (hx : l[k]? = some x) (h : mGo t [] l = mGo t (l.take k) (l.drop k)) (he : mE t (l.take k) x = 0) : mGo t [] l = mGo t (l.take (k + 1)) (l.drop (k + 1)) := by
  rw [h, drop_step hx, take_step hx]
  simp only [mGo, if_pos he]
theorem mGo_end {t : List Q4} {l : List Mv} {k : Nat} (hk : l.length ≤ k) (h : mGo t [] l = mGo t (l.take k) (l.drop k)) : mGo t [] l = 0 := by
  rw [h, List.drop_eq_nil_of_le hk]
  rfl
theorem stock_step {l : List Mv} {k : Nat} {x : Mv} (hx : l[k]? = some x) (p : ByteArray) : stock (l.take (k + 1)) p = stock (l.take k) p + if eqS x.p p then gn x else 0 := by
  rw [take_step hx]
  simp [stock]
theorem lastD_step {l : List Mv} {k : Nat} {x : Mv} (hx : l[k]? = some x) : lastD (l.take (k + 1)) = x.d := by
  rw [take_step hx]
  simp [lastD]
theorem Bk.fourc {w : World} {g t : Nat} {a b c d : Value} (h : Bk w g t #[a, b, c, d]) : w.cell? ⟨g, 0, none⟩ = some a ∧ w.cell? ⟨g, 1, none⟩ = some b ∧ w.cell? ⟨g, 2, none⟩ = some c ∧ w.cell? ⟨g, 3, none⟩ = some d :=
  ⟨by simpa using h.cell 0, by simpa using h.cell 1, by simpa using h.cell 2, by simpa using h.cell 3⟩
set_option maxHeartbeats 1000000 in
theorem gain_any (xd xk xn : Int) (xp : ByteArray) (hn : 0 ≤ xn ∧ xn ≤ 100000) (w : World) :
    Calls Try.prog 62 #[.agg #[.int .i64 xd, .int .i64 xk, .string xp, .int .i64 xn]] w fun e w' => Below w.heap.size w w' ∧ e = .returned (.int .i64 (gn ⟨xd, xk, xp, xn⟩)) := by
  by_cases h0 : xk = 0
  · subst h0
    go_enter Try.func62, Try.ntmps62
    go_wp2
    go_ret
    exact ⟨(by repeat (first | with_reducible exact Below.refl _ _ | with_reducible assumption | with_reducible refine Below.drew ?_ | with_reducible refine Below.drewN ?_ _ | with_reducible refine Below.alloc2 ?_ _ | with_reducible refine Below.alloc ?_ (by first | omega | (simp <;> omega)) _ | with_reducible refine Below.setCell ?_ (by first | omega | (simp <;> omega)) _ | with_reducible refine Below.step2 (by with_reducible assumption) ?_ | with_reducible refine Below.step (by with_reducible assumption) ?_ (by first | omega | (simp <;> omega)))), ret_int (by simp [gn])⟩
  · have hb : (xk == 0) = false := by simpa using h0
    have hw : IntKind.i64.wrap (-xn) = -xn := IntWalk.i64_in _ (by omega)
    go_enter Try.func62, Try.ntmps62
    go_wp2
    go_ret
    refine ⟨(by repeat (first | with_reducible exact Below.refl _ _ | with_reducible assumption | with_reducible refine Below.drew ?_ | with_reducible refine Below.drewN ?_ _ | with_reducible refine Below.alloc2 ?_ _ | with_reducible refine Below.alloc ?_ (by first | omega | (simp <;> omega)) _ | with_reducible refine Below.setCell ?_ (by first | omega | (simp <;> omega)) _ | with_reducible refine Below.step2 (by with_reducible assumption) ?_ | with_reducible refine Below.step (by with_reducible assumption) ?_ (by first | omega | (simp <;> omega)))), ret_int ?_⟩
    simp only [gn, if_neg h0]
set_option maxRecDepth 100000 in
set_option maxHeartbeats 8000000 in
theorem moveError_any (xd xk xn day : Int) (xp : ByteArray) (gm kk : Nat) (f : ByteArray → Option Int) (w : World) (hm : IntMap w Try.prog 9 3 strV strOk gm kk f) (hs : xp.size ≤ 30) (hf : ∀ s, f xp = some s → 0 ≤ s ∧ s ≤ 100000000) :
    Calls Try.prog 61 #[.agg #[.int .i64 xd, .int .i64 xk, .string xp, .int .i64 xn], .int .i64 day, .map (some gm)] w fun e w' => Below w.heap.size w w' ∧ e = .returned (.int .i64 (mEr (dayB xd) (inR 0 2 xk) (inR 1 100000 xn) (decide (xd < day)) (f xp).isSome (decide ((f xp).getD 0 + gn ⟨xd, xk, xp, xn⟩ < 0)))) := by
  have HM := Lib.hid hm
  have HSO : Hid (strOk xp) := Lib.hid (by unfold strOk; omega)
  obtain ⟨b1, e1⟩ : ∃ b, dayB xd = b := ⟨_, rfl⟩
  obtain ⟨b2, e2⟩ : ∃ b, inR 0 2 xk = b := ⟨_, rfl⟩
  obtain ⟨b3, e3⟩ : ∃ b, inR 1 100000 xn = b := ⟨_, rfl⟩
  obtain ⟨G, eG⟩ : ∃ G, gn ⟨xd, xk, xp, xn⟩ = G := ⟨_, rfl⟩
  obtain ⟨s, eA⟩ : ∃ F, (f xp).getD 0 = F := ⟨_, rfl⟩
  obtain ⟨v, eB⟩ : ∃ F, (f xp).isSome = F := ⟨_, rfl⟩
  have hs2 : 0 ≤ s ∧ s ≤ 100000000 := by
    rw [← eA]
    cases h : f xp with
    | none => simp
    | some z => exact hf z h
  have B1 := Lib.hid e1
  have B2 := Lib.hid e2
  have B3 := Lib.hid e3
  have HG := Lib.hid eG
  have HFA := Lib.hid eA
  have HFB := Lib.hid eB
  rw [e1, e2, e3, eG, eA, eB]
  have ogm := hm.lt
  clear hm
  cases b1
  · have HN : True := trivial
    clear e1 e2 e3 eG eA eB hf
    (
          go_enter Try.func61, Try.ntmps61
          go_wp2_with (first
    | (at_lookup; refine wpList_ok_int rfl _ _ rfl str_keys Try.underlying108 Try.underlying3 (zero_int _) rfl (HM.out.alloc _) xp HSO.out rfl ?_; rw [HFA.out, HFB.out])
    | (go_at_call 64; with_reducible refine (isDay_b B1.out _).mono ?_; rintro e w1 ⟨hb1, rfl⟩; have hbk1 : Bk w1 w.heap.size 90 #[.int .i64 xd, .int .i64 xk, .string xp, .int .i64 xn] := (by repeat (first | with_reducible assumption | with_reducible exact Bk.at_ (by first | (simp; done) | omega) | with_reducible refine Bk.alloc ?_ _ | with_reducible refine Bk.drew ?_ | with_reducible refine Bk.drewN ?_ _ | with_reducible refine Bk.step (by with_reducible assumption) ?_ (by first | omega | (simp <;> omega)))); obtain ⟨q0, q1, q2, q3⟩ := hbk1.fourc; have olt := hbk1.lt; have oz := hb1.size; (try simp at oz); have hbx : Below w.heap.size w w1 := (by repeat (first | with_reducible exact Below.refl _ _ | with_reducible assumption | with_reducible refine Below.drew ?_ | with_reducible refine Below.drewN ?_ _ | with_reducible refine Below.alloc2 ?_ _ | with_reducible refine Below.alloc ?_ (by first | omega | (simp <;> omega)) _ | with_reducible refine Below.setCell ?_ (by first | omega | (simp <;> omega)) _ | with_reducible refine Below.step2 (by with_reducible assumption) ?_ | with_reducible refine Below.step (by with_reducible assumption) ?_ (by first | omega | (simp <;> omega)))); have HBX := Lib.hid hbx; clear hbx)
    | (go_at_call 49; with_reducible refine (areFrom_one 0 2 xk _ _ ?_ _ B2.out).mono ?_; (focus (first | (simp; done) | (refine (Bk.cell (t := 3) (cs := #[.int .i64 xk]) ?_ 0).trans rfl; exact (by repeat (first | with_reducible assumption | with_reducible exact Bk.at_ (by first | (simp; done) | omega) | with_reducible refine Bk.alloc ?_ _ | with_reducible refine Bk.drew ?_ | with_reducible refine Bk.drewN ?_ _ | with_reducible refine Bk.step (by with_reducible assumption) ?_ (by first | omega | (simp <;> omega))))))); rintro e w9 ⟨rfl, rfl⟩)
    | (go_at_call 49; with_reducible refine (areFrom_one 1 100000 xn _ _ ?_ _ B3.out).mono ?_; (focus (first | (simp; done) | (refine (Bk.cell (t := 3) (cs := #[.int .i64 xn]) ?_ 0).trans rfl; exact (by repeat (first | with_reducible assumption | with_reducible exact Bk.at_ (by first | (simp; done) | omega) | with_reducible refine Bk.alloc ?_ _ | with_reducible refine Bk.drew ?_ | with_reducible refine Bk.drewN ?_ _ | with_reducible refine Bk.step (by with_reducible assumption) ?_ (by first | omega | (simp <;> omega))))))); rintro e w9 ⟨rfl, rfl⟩)
    | (go_at_call 62; with_reducible refine (gain_any xd xk xn xp HN.out _).mono ?_; rw [HG.out]; rintro e w2 ⟨hb2, rfl⟩; have oz2 := hb2.size; (try simp at oz2)))
          go_ret
          exact ⟨(by repeat (first | with_reducible exact Below.refl _ _ | with_reducible assumption | with_reducible refine Below.drew ?_ | with_reducible refine Below.drewN ?_ _ | with_reducible refine Below.alloc2 ?_ _ | with_reducible refine Below.alloc ?_ (by first | omega | (simp <;> omega)) _ | with_reducible refine Below.setCell ?_ (by first | omega | (simp <;> omega)) _ | with_reducible refine Below.step2 (by with_reducible assumption) ?_ | with_reducible refine Below.step (by with_reducible assumption) ?_ (by first | omega | (simp <;> omega)))), rfl⟩)
  cases b2
  · have HN : True := trivial
    clear e1 e2 e3 eG eA eB hf
    (
          go_enter Try.func61, Try.ntmps61
          go_wp2_with (first
    | (at_lookup; refine wpList_ok_int rfl _ _ rfl str_keys Try.underlying108 Try.underlying3 (zero_int _) rfl (HM.out.alloc _) xp HSO.out rfl ?_; rw [HFA.out, HFB.out])
    | (go_at_call 64; with_reducible refine (isDay_b B1.out _).mono ?_; rintro e w1 ⟨hb1, rfl⟩; have hbk1 : Bk w1 w.heap.size 90 #[.int .i64 xd, .int .i64 xk, .string xp, .int .i64 xn] := (by repeat (first | with_reducible assumption | with_reducible exact Bk.at_ (by first | (simp; done) | omega) | with_reducible refine Bk.alloc ?_ _ | with_reducible refine Bk.drew ?_ | with_reducible refine Bk.drewN ?_ _ | with_reducible refine Bk.step (by with_reducible assumption) ?_ (by first | omega | (simp <;> omega)))); obtain ⟨q0, q1, q2, q3⟩ := hbk1.fourc; have olt := hbk1.lt; have oz := hb1.size; (try simp at oz); have hbx : Below w.heap.size w w1 := (by repeat (first | with_reducible exact Below.refl _ _ | with_reducible assumption | with_reducible refine Below.drew ?_ | with_reducible refine Below.drewN ?_ _ | with_reducible refine Below.alloc2 ?_ _ | with_reducible refine Below.alloc ?_ (by first | omega | (simp <;> omega)) _ | with_reducible refine Below.setCell ?_ (by first | omega | (simp <;> omega)) _ | with_reducible refine Below.step2 (by with_reducible assumption) ?_ | with_reducible refine Below.step (by with_reducible assumption) ?_ (by first | omega | (simp <;> omega)))); have HBX := Lib.hid hbx; clear hbx)
    | (go_at_call 49; with_reducible refine (areFrom_one 0 2 xk _ _ ?_ _ B2.out).mono ?_; (focus (first | (simp; done) | (refine (Bk.cell (t := 3) (cs := #[.int .i64 xk]) ?_ 0).trans rfl; exact (by repeat (first | with_reducible assumption | with_reducible exact Bk.at_ (by first | (simp; done) | omega) | with_reducible refine Bk.alloc ?_ _ | with_reducible refine Bk.drew ?_ | with_reducible refine Bk.drewN ?_ _ | with_reducible refine Bk.step (by with_reducible assumption) ?_ (by first | omega | (simp <;> omega))))))); rintro e w9 ⟨rfl, rfl⟩)
    | (go_at_call 49; with_reducible refine (areFrom_one 1 100000 xn _ _ ?_ _ B3.out).mono ?_; (focus (first | (simp; done) | (refine (Bk.cell (t := 3) (cs := #[.int .i64 xn]) ?_ 0).trans rfl; exact (by repeat (first | with_reducible assumption | with_reducible exact Bk.at_ (by first | (simp; done) | omega) | with_reducible refine Bk.alloc ?_ _ | with_reducible refine Bk.drew ?_ | with_reducible refine Bk.drewN ?_ _ | with_reducible refine Bk.step (by with_reducible assumption) ?_ (by first | omega | (simp <;> omega))))))); rintro e w9 ⟨rfl, rfl⟩)
    | (go_at_call 62; with_reducible refine (gain_any xd xk xn xp HN.out _).mono ?_; rw [HG.out]; rintro e w2 ⟨hb2, rfl⟩; have oz2 := hb2.size; (try simp at oz2)))
          go_ret
          exact ⟨(by repeat (first | with_reducible exact Below.refl _ _ | with_reducible assumption | with_reducible refine Below.drew ?_ | with_reducible refine Below.drewN ?_ _ | with_reducible refine Below.alloc2 ?_ _ | with_reducible refine Below.alloc ?_ (by first | omega | (simp <;> omega)) _ | with_reducible refine Below.setCell ?_ (by first | omega | (simp <;> omega)) _ | with_reducible refine Below.step2 (by with_reducible assumption) ?_ | with_reducible refine Below.step (by with_reducible assumption) ?_ (by first | omega | (simp <;> omega)))), rfl⟩)
  cases b3
  · have HN : True := trivial
    clear e1 e2 e3 eG eA eB hf
    (
          go_enter Try.func61, Try.ntmps61
          go_wp2_with (first
    | (at_lookup; refine wpList_ok_int rfl _ _ rfl str_keys Try.underlying108 Try.underlying3 (zero_int _) rfl (HM.out.alloc _) xp HSO.out rfl ?_; rw [HFA.out, HFB.out])
    | (go_at_call 64; with_reducible refine (isDay_b B1.out _).mono ?_; rintro e w1 ⟨hb1, rfl⟩; have hbk1 : Bk w1 w.heap.size 90 #[.int .i64 xd, .int .i64 xk, .string xp, .int .i64 xn] := (by repeat (first | with_reducible assumption | with_reducible exact Bk.at_ (by first | (simp; done) | omega) | with_reducible refine Bk.alloc ?_ _ | with_reducible refine Bk.drew ?_ | with_reducible refine Bk.drewN ?_ _ | with_reducible refine Bk.step (by with_reducible assumption) ?_ (by first | omega | (simp <;> omega)))); obtain ⟨q0, q1, q2, q3⟩ := hbk1.fourc; have olt := hbk1.lt; have oz := hb1.size; (try simp at oz); have hbx : Below w.heap.size w w1 := (by repeat (first | with_reducible exact Below.refl _ _ | with_reducible assumption | with_reducible refine Below.drew ?_ | with_reducible refine Below.drewN ?_ _ | with_reducible refine Below.alloc2 ?_ _ | with_reducible refine Below.alloc ?_ (by first | omega | (simp <;> omega)) _ | with_reducible refine Below.setCell ?_ (by first | omega | (simp <;> omega)) _ | with_reducible refine Below.step2 (by with_reducible assumption) ?_ | with_reducible refine Below.step (by with_reducible assumption) ?_ (by first | omega | (simp <;> omega)))); have HBX := Lib.hid hbx; clear hbx)
    | (go_at_call 49; with_reducible refine (areFrom_one 0 2 xk _ _ ?_ _ B2.out).mono ?_; (focus (first | (simp; done) | (refine (Bk.cell (t := 3) (cs := #[.int .i64 xk]) ?_ 0).trans rfl; exact (by repeat (first | with_reducible assumption | with_reducible exact Bk.at_ (by first | (simp; done) | omega) | with_reducible refine Bk.alloc ?_ _ | with_reducible refine Bk.drew ?_ | with_reducible refine Bk.drewN ?_ _ | with_reducible refine Bk.step (by with_reducible assumption) ?_ (by first | omega | (simp <;> omega))))))); rintro e w9 ⟨rfl, rfl⟩)
    | (go_at_call 49; with_reducible refine (areFrom_one 1 100000 xn _ _ ?_ _ B3.out).mono ?_; (focus (first | (simp; done) | (refine (Bk.cell (t := 3) (cs := #[.int .i64 xn]) ?_ 0).trans rfl; exact (by repeat (first | with_reducible assumption | with_reducible exact Bk.at_ (by first | (simp; done) | omega) | with_reducible refine Bk.alloc ?_ _ | with_reducible refine Bk.drew ?_ | with_reducible refine Bk.drewN ?_ _ | with_reducible refine Bk.step (by with_reducible assumption) ?_ (by first | omega | (simp <;> omega))))))); rintro e w9 ⟨rfl, rfl⟩)
    | (go_at_call 62; with_reducible refine (gain_any xd xk xn xp HN.out _).mono ?_; rw [HG.out]; rintro e w2 ⟨hb2, rfl⟩; have oz2 := hb2.size; (try simp at oz2)))
          go_ret
          exact ⟨(by repeat (first | with_reducible exact Below.refl _ _ | with_reducible assumption | with_reducible refine Below.drew ?_ | with_reducible refine Below.drewN ?_ _ | with_reducible refine Below.alloc2 ?_ _ | with_reducible refine Below.alloc ?_ (by first | omega | (simp <;> omega)) _ | with_reducible refine Below.setCell ?_ (by first | omega | (simp <;> omega)) _ | with_reducible refine Below.step2 (by with_reducible assumption) ?_ | with_reducible refine Below.step (by with_reducible assumption) ?_ (by first | omega | (simp <;> omega)))), rfl⟩)
  have hn3 := inR_iff.1 e3
  have HN : Hid (0 ≤ xn ∧ xn ≤ 100000) := Lib.hid (by omega)
  have hG1 : -100000 ≤ G := by rw [← eG]; unfold gn; split <;> (simp only; omega)
  have hG2 : G ≤ 100000 := by rw [← eG]; unfold gn; split <;> (simp only; omega)
  by_cases hd : xd < day
  · rw [decide_eq_true hd]
    clear e1 e2 e3 eG eA eB hf
    (
          go_enter Try.func61, Try.ntmps61
          go_wp2_with (first
    | (at_lookup; refine wpList_ok_int rfl _ _ rfl str_keys Try.underlying108 Try.underlying3 (zero_int _) rfl (HM.out.alloc _) xp HSO.out rfl ?_; rw [HFA.out, HFB.out])
    | (go_at_call 64; with_reducible refine (isDay_b B1.out _).mono ?_; rintro e w1 ⟨hb1, rfl⟩; have hbk1 : Bk w1 w.heap.size 90 #[.int .i64 xd, .int .i64 xk, .string xp, .int .i64 xn] := (by repeat (first | with_reducible assumption | with_reducible exact Bk.at_ (by first | (simp; done) | omega) | with_reducible refine Bk.alloc ?_ _ | with_reducible refine Bk.drew ?_ | with_reducible refine Bk.drewN ?_ _ | with_reducible refine Bk.step (by with_reducible assumption) ?_ (by first | omega | (simp <;> omega)))); obtain ⟨q0, q1, q2, q3⟩ := hbk1.fourc; have olt := hbk1.lt; have oz := hb1.size; (try simp at oz); have hbx : Below w.heap.size w w1 := (by repeat (first | with_reducible exact Below.refl _ _ | with_reducible assumption | with_reducible refine Below.drew ?_ | with_reducible refine Below.drewN ?_ _ | with_reducible refine Below.alloc2 ?_ _ | with_reducible refine Below.alloc ?_ (by first | omega | (simp <;> omega)) _ | with_reducible refine Below.setCell ?_ (by first | omega | (simp <;> omega)) _ | with_reducible refine Below.step2 (by with_reducible assumption) ?_ | with_reducible refine Below.step (by with_reducible assumption) ?_ (by first | omega | (simp <;> omega)))); have HBX := Lib.hid hbx; clear hbx)
    | (go_at_call 49; with_reducible refine (areFrom_one 0 2 xk _ _ ?_ _ B2.out).mono ?_; (focus (first | (simp; done) | (refine (Bk.cell (t := 3) (cs := #[.int .i64 xk]) ?_ 0).trans rfl; exact (by repeat (first | with_reducible assumption | with_reducible exact Bk.at_ (by first | (simp; done) | omega) | with_reducible refine Bk.alloc ?_ _ | with_reducible refine Bk.drew ?_ | with_reducible refine Bk.drewN ?_ _ | with_reducible refine Bk.step (by with_reducible assumption) ?_ (by first | omega | (simp <;> omega))))))); rintro e w9 ⟨rfl, rfl⟩)
    | (go_at_call 49; with_reducible refine (areFrom_one 1 100000 xn _ _ ?_ _ B3.out).mono ?_; (focus (first | (simp; done) | (refine (Bk.cell (t := 3) (cs := #[.int .i64 xn]) ?_ 0).trans rfl; exact (by repeat (first | with_reducible assumption | with_reducible exact Bk.at_ (by first | (simp; done) | omega) | with_reducible refine Bk.alloc ?_ _ | with_reducible refine Bk.drew ?_ | with_reducible refine Bk.drewN ?_ _ | with_reducible refine Bk.step (by with_reducible assumption) ?_ (by first | omega | (simp <;> omega))))))); rintro e w9 ⟨rfl, rfl⟩)
    | (go_at_call 62; with_reducible refine (gain_any xd xk xn xp HN.out _).mono ?_; rw [HG.out]; rintro e w2 ⟨hb2, rfl⟩; have oz2 := hb2.size; (try simp at oz2)))
          go_ret
          exact ⟨(by repeat (first | with_reducible exact Below.refl _ _ | with_reducible assumption | with_reducible refine Below.drew ?_ | with_reducible refine Below.drewN ?_ _ | with_reducible refine Below.alloc2 ?_ _ | with_reducible refine Below.alloc ?_ (by first | omega | (simp <;> omega)) _ | with_reducible refine Below.setCell ?_ (by first | omega | (simp <;> omega)) _ | with_reducible refine Below.step2 (by with_reducible assumption) ?_ | with_reducible refine Below.step (by with_reducible assumption) ?_ (by first | omega | (simp <;> omega)))), rfl⟩)
  rw [decide_eq_false hd]
  clear e1 e2 e3 eG eA eB hf
  cases v
  · (
          go_enter Try.func61, Try.ntmps61
          go_wp2_with (first
    | (at_lookup; refine wpList_ok_int rfl _ _ rfl str_keys Try.underlying108 Try.underlying3 (zero_int _) rfl (HM.out.alloc _) xp HSO.out rfl ?_; rw [HFA.out, HFB.out])
    | (go_at_call 64; with_reducible refine (isDay_b B1.out _).mono ?_; rintro e w1 ⟨hb1, rfl⟩; have hbk1 : Bk w1 w.heap.size 90 #[.int .i64 xd, .int .i64 xk, .string xp, .int .i64 xn] := (by repeat (first | with_reducible assumption | with_reducible exact Bk.at_ (by first | (simp; done) | omega) | with_reducible refine Bk.alloc ?_ _ | with_reducible refine Bk.drew ?_ | with_reducible refine Bk.drewN ?_ _ | with_reducible refine Bk.step (by with_reducible assumption) ?_ (by first | omega | (simp <;> omega)))); obtain ⟨q0, q1, q2, q3⟩ := hbk1.fourc; have olt := hbk1.lt; have oz := hb1.size; (try simp at oz); have hbx : Below w.heap.size w w1 := (by repeat (first | with_reducible exact Below.refl _ _ | with_reducible assumption | with_reducible refine Below.drew ?_ | with_reducible refine Below.drewN ?_ _ | with_reducible refine Below.alloc2 ?_ _ | with_reducible refine Below.alloc ?_ (by first | omega | (simp <;> omega)) _ | with_reducible refine Below.setCell ?_ (by first | omega | (simp <;> omega)) _ | with_reducible refine Below.step2 (by with_reducible assumption) ?_ | with_reducible refine Below.step (by with_reducible assumption) ?_ (by first | omega | (simp <;> omega)))); have HBX := Lib.hid hbx; clear hbx)
    | (go_at_call 49; with_reducible refine (areFrom_one 0 2 xk _ _ ?_ _ B2.out).mono ?_; (focus (first | (simp; done) | (refine (Bk.cell (t := 3) (cs := #[.int .i64 xk]) ?_ 0).trans rfl; exact (by repeat (first | with_reducible assumption | with_reducible exact Bk.at_ (by first | (simp; done) | omega) | with_reducible refine Bk.alloc ?_ _ | with_reducible refine Bk.drew ?_ | with_reducible refine Bk.drewN ?_ _ | with_reducible refine Bk.step (by with_reducible assumption) ?_ (by first | omega | (simp <;> omega))))))); rintro e w9 ⟨rfl, rfl⟩)
    | (go_at_call 49; with_reducible refine (areFrom_one 1 100000 xn _ _ ?_ _ B3.out).mono ?_; (focus (first | (simp; done) | (refine (Bk.cell (t := 3) (cs := #[.int .i64 xn]) ?_ 0).trans rfl; exact (by repeat (first | with_reducible assumption | with_reducible exact Bk.at_ (by first | (simp; done) | omega) | with_reducible refine Bk.alloc ?_ _ | with_reducible refine Bk.drew ?_ | with_reducible refine Bk.drewN ?_ _ | with_reducible refine Bk.step (by with_reducible assumption) ?_ (by first | omega | (simp <;> omega))))))); rintro e w9 ⟨rfl, rfl⟩)
    | (go_at_call 62; with_reducible refine (gain_any xd xk xn xp HN.out _).mono ?_; rw [HG.out]; rintro e w2 ⟨hb2, rfl⟩; have oz2 := hb2.size; (try simp at oz2)))
          go_ret
          exact ⟨(by repeat (first | with_reducible exact Below.refl _ _ | with_reducible assumption | with_reducible refine Below.drew ?_ | with_reducible refine Below.drewN ?_ _ | with_reducible refine Below.alloc2 ?_ _ | with_reducible refine Below.alloc ?_ (by first | omega | (simp <;> omega)) _ | with_reducible refine Below.setCell ?_ (by first | omega | (simp <;> omega)) _ | with_reducible refine Below.step2 (by with_reducible assumption) ?_ | with_reducible refine Below.step (by with_reducible assumption) ?_ (by first | omega | (simp <;> omega)))), rfl⟩)
  by_cases h6 : s + G < 0
  · rw [decide_eq_true h6]
    (
          go_enter Try.func61, Try.ntmps61
          go_wp2_with (first
    | (at_lookup; refine wpList_ok_int rfl _ _ rfl str_keys Try.underlying108 Try.underlying3 (zero_int _) rfl (HM.out.alloc _) xp HSO.out rfl ?_; rw [HFA.out, HFB.out])
    | (go_at_call 64; with_reducible refine (isDay_b B1.out _).mono ?_; rintro e w1 ⟨hb1, rfl⟩; have hbk1 : Bk w1 w.heap.size 90 #[.int .i64 xd, .int .i64 xk, .string xp, .int .i64 xn] := (by repeat (first | with_reducible assumption | with_reducible exact Bk.at_ (by first | (simp; done) | omega) | with_reducible refine Bk.alloc ?_ _ | with_reducible refine Bk.drew ?_ | with_reducible refine Bk.drewN ?_ _ | with_reducible refine Bk.step (by with_reducible assumption) ?_ (by first | omega | (simp <;> omega)))); obtain ⟨q0, q1, q2, q3⟩ := hbk1.fourc; have olt := hbk1.lt; have oz := hb1.size; (try simp at oz); have hbx : Below w.heap.size w w1 := (by repeat (first | with_reducible exact Below.refl _ _ | with_reducible assumption | with_reducible refine Below.drew ?_ | with_reducible refine Below.drewN ?_ _ | with_reducible refine Below.alloc2 ?_ _ | with_reducible refine Below.alloc ?_ (by first | omega | (simp <;> omega)) _ | with_reducible refine Below.setCell ?_ (by first | omega | (simp <;> omega)) _ | with_reducible refine Below.step2 (by with_reducible assumption) ?_ | with_reducible refine Below.step (by with_reducible assumption) ?_ (by first | omega | (simp <;> omega)))); have HBX := Lib.hid hbx; clear hbx)
    | (go_at_call 49; with_reducible refine (areFrom_one 0 2 xk _ _ ?_ _ B2.out).mono ?_; (focus (first | (simp; done) | (refine (Bk.cell (t := 3) (cs := #[.int .i64 xk]) ?_ 0).trans rfl; exact (by repeat (first | with_reducible assumption | with_reducible exact Bk.at_ (by first | (simp; done) | omega) | with_reducible refine Bk.alloc ?_ _ | with_reducible refine Bk.drew ?_ | with_reducible refine Bk.drewN ?_ _ | with_reducible refine Bk.step (by with_reducible assumption) ?_ (by first | omega | (simp <;> omega))))))); rintro e w9 ⟨rfl, rfl⟩)
    | (go_at_call 49; with_reducible refine (areFrom_one 1 100000 xn _ _ ?_ _ B3.out).mono ?_; (focus (first | (simp; done) | (refine (Bk.cell (t := 3) (cs := #[.int .i64 xn]) ?_ 0).trans rfl; exact (by repeat (first | with_reducible assumption | with_reducible exact Bk.at_ (by first | (simp; done) | omega) | with_reducible refine Bk.alloc ?_ _ | with_reducible refine Bk.drew ?_ | with_reducible refine Bk.drewN ?_ _ | with_reducible refine Bk.step (by with_reducible assumption) ?_ (by first | omega | (simp <;> omega))))))); rintro e w9 ⟨rfl, rfl⟩)
    | (go_at_call 62; with_reducible refine (gain_any xd xk xn xp HN.out _).mono ?_; rw [HG.out]; rintro e w2 ⟨hb2, rfl⟩; have oz2 := hb2.size; (try simp at oz2)))
          go_ret
          exact ⟨(by repeat (first | with_reducible exact Below.refl _ _ | with_reducible assumption | with_reducible refine Below.drew ?_ | with_reducible refine Below.drewN ?_ _ | with_reducible refine Below.alloc2 ?_ _ | with_reducible refine Below.alloc ?_ (by first | omega | (simp <;> omega)) _ | with_reducible refine Below.setCell ?_ (by first | omega | (simp <;> omega)) _ | with_reducible refine Below.step2 (by with_reducible assumption) ?_ | with_reducible refine Below.step (by with_reducible assumption) ?_ (by first | omega | (simp <;> omega)))), rfl⟩)
  · rw [decide_eq_false h6]
    (
          go_enter Try.func61, Try.ntmps61
          go_wp2_with (first
    | (at_lookup; refine wpList_ok_int rfl _ _ rfl str_keys Try.underlying108 Try.underlying3 (zero_int _) rfl (HM.out.alloc _) xp HSO.out rfl ?_; rw [HFA.out, HFB.out])
    | (go_at_call 64; with_reducible refine (isDay_b B1.out _).mono ?_; rintro e w1 ⟨hb1, rfl⟩; have hbk1 : Bk w1 w.heap.size 90 #[.int .i64 xd, .int .i64 xk, .string xp, .int .i64 xn] := (by repeat (first | with_reducible assumption | with_reducible exact Bk.at_ (by first | (simp; done) | omega) | with_reducible refine Bk.alloc ?_ _ | with_reducible refine Bk.drew ?_ | with_reducible refine Bk.drewN ?_ _ | with_reducible refine Bk.step (by with_reducible assumption) ?_ (by first | omega | (simp <;> omega)))); obtain ⟨q0, q1, q2, q3⟩ := hbk1.fourc; have olt := hbk1.lt; have oz := hb1.size; (try simp at oz); have hbx : Below w.heap.size w w1 := (by repeat (first | with_reducible exact Below.refl _ _ | with_reducible assumption | with_reducible refine Below.drew ?_ | with_reducible refine Below.drewN ?_ _ | with_reducible refine Below.alloc2 ?_ _ | with_reducible refine Below.alloc ?_ (by first | omega | (simp <;> omega)) _ | with_reducible refine Below.setCell ?_ (by first | omega | (simp <;> omega)) _ | with_reducible refine Below.step2 (by with_reducible assumption) ?_ | with_reducible refine Below.step (by with_reducible assumption) ?_ (by first | omega | (simp <;> omega)))); have HBX := Lib.hid hbx; clear hbx)
    | (go_at_call 49; with_reducible refine (areFrom_one 0 2 xk _ _ ?_ _ B2.out).mono ?_; (focus (first | (simp; done) | (refine (Bk.cell (t := 3) (cs := #[.int .i64 xk]) ?_ 0).trans rfl; exact (by repeat (first | with_reducible assumption | with_reducible exact Bk.at_ (by first | (simp; done) | omega) | with_reducible refine Bk.alloc ?_ _ | with_reducible refine Bk.drew ?_ | with_reducible refine Bk.drewN ?_ _ | with_reducible refine Bk.step (by with_reducible assumption) ?_ (by first | omega | (simp <;> omega))))))); rintro e w9 ⟨rfl, rfl⟩)
    | (go_at_call 49; with_reducible refine (areFrom_one 1 100000 xn _ _ ?_ _ B3.out).mono ?_; (focus (first | (simp; done) | (refine (Bk.cell (t := 3) (cs := #[.int .i64 xn]) ?_ 0).trans rfl; exact (by repeat (first | with_reducible assumption | with_reducible exact Bk.at_ (by first | (simp; done) | omega) | with_reducible refine Bk.alloc ?_ _ | with_reducible refine Bk.drew ?_ | with_reducible refine Bk.drewN ?_ _ | with_reducible refine Bk.step (by with_reducible assumption) ?_ (by first | omega | (simp <;> omega))))))); rintro e w9 ⟨rfl, rfl⟩)
    | (go_at_call 62; with_reducible refine (gain_any xd xk xn xp HN.out _).mono ?_; rw [HG.out]; rintro e w2 ⟨hb2, rfl⟩; have oz2 := hb2.size; (try simp at oz2)))
          go_ret
          exact ⟨(by repeat (first | with_reducible exact Below.refl _ _ | with_reducible assumption | with_reducible refine Below.drew ?_ | with_reducible refine Below.drewN ?_ _ | with_reducible refine Below.alloc2 ?_ _ | with_reducible refine Below.alloc ?_ (by first | omega | (simp <;> omega)) _ | with_reducible refine Below.setCell ?_ (by first | omega | (simp <;> omega)) _ | with_reducible refine Below.step2 (by with_reducible assumption) ?_ | with_reducible refine Below.step (by with_reducible assumption) ?_ (by first | omega | (simp <;> omega)))), rfl⟩)

end Go.Proofs.Ytbeijeblbchglaa
