/- Chapter 8, walks: which movements are permitted, of the program. -/
import Derived.Test.YtmcefodfppdajaaCnt8
namespace Go.Proofs.Ytmcefodfppdajaa
open Go.RowKit Go.Deep

def p2 (x : Int × Int) : List Value := [.int .i64 x.1, .int .i64 x.2]
theorem p2_wide (x : Int × Int) : (p2 x).length = 2 := rfl
theorem Rws.p2 {w : World} {B n c k : Nat} {A : Option Addr} {l : List (Int × Int)} (h : Rws p2 2 w B A n c l) (hk : k < n) : ∃ b o x, A = some ⟨b, o, none⟩ ∧ b < B ∧ l[k]? = some x ∧ w.cell? ⟨b, o + k * 2, none⟩ = some (.int .i64 x.1) ∧ w.cell? ⟨b, o + k * 2 + 1, none⟩ = some (.int .i64 x.2) := by
  obtain ⟨b, o, x, e, hb, hx, hc⟩ := h.at_ p2_wide hk
  exact ⟨b, o, x, e, hb, hx, hc 0 _ rfl, hc 1 _ rfl⟩
def eq2 (a b c d : Int) : Bool := decide (a = c ∧ b = d)
theorem eq_arr2 (a b c d : Int) (w : World) : (Op.equalIn 10000 23 (.agg #[.int .i64 a, .int .i64 b]) (.agg #[.int .i64 c, .int .i64 d])).run Try.prog w = .ok (eq2 a b c d) w := by
  have u3 := Try.underlying3
  have a3 := Try.isAgg3
  have z3 := Try.sizeOf3
  unfold eq2
  rw [show (10000 : Nat) = 9999 + 1 from rfl, Op.equalIn]
  simp only [Sem.run_bind, run_underlying Try.underlying23, Result.andThen_ok]
  simp only [Std.Legacy.Range.forIn_eq_forIn_range', Std.Legacy.Range.size, Nat.sub_zero, Nat.add_sub_cancel, Nat.div_one, List.range'_succ, List.range'_zero, List.forIn_cons, List.forIn_nil]
  by_cases h1 : a = c
  · subst h1
    by_cases h2 : b = d
    · subst h2
      simp
      go_simp
    · have h2b : (b == d) = false := by simpa using h2
      simp [h2]
      go_simp
  · have h1b : (a == c) = false := by simpa using h1
    simp [h1]
    go_simp

/-- The first place of a pair, or -1. -/
def ix2 : List (Int × Int) → Int → Int → Int
  | [], _, _ => -1
  | x :: l, a, b => if eq2 a b x.1 x.2 then 0 else if ix2 l a b < 0 then -1 else ix2 l a b + 1
theorem ix2_ge : ∀ (l : List (Int × Int)) (a b : Int), -1 ≤ ix2 l a b
  | [], _, _ => by simp [ix2]
  | x :: l, a, b => by
    have := ix2_ge l a b
    simp only [ix2]
    split
    · omega
    · split <;> omega
def has2 (l : List (Int × Int)) (a b : Int) : Bool := l.any fun x => eq2 a b x.1 x.2
theorem ix2_at : ∀ {l : List (Int × Int)} {k : Nat} {x : Int × Int} {a b : Int}, l[k]? = some x → has2 (l.take k) a b = false → eq2 a b x.1 x.2 = true → ix2 l a b = k
  | [], k, x, a, b, h, _, _ => by simp at h
  | y :: l, 0, x, a, b, h, _, hp => by
    simp at h
    subst h
    simp [ix2, hp]
  | y :: l, k + 1, x, a, b, h, ha, hp => by
    simp only [has2, List.take_succ_cons, List.any_cons, Bool.or_eq_false_iff] at ha
    have := ix2_at (l := l) (k := k) (x := x) (a := a) (b := b) (by simpa using h) ha.2 hp
    simp only [ix2, ha.1, this]
    rw [if_neg (by simp), if_neg (by omega)]
    omega
theorem ix2_none : ∀ {l : List (Int × Int)} {a b : Int}, has2 l a b = false → ix2 l a b = -1
  | [], _, _, _ => rfl
  | x :: l, a, b, h => by
    simp only [has2, List.any_cons, Bool.or_eq_false_iff] at h
    simp [ix2, h.1, ix2_none (l := l) h.2]
theorem ix2_has (l : List (Int × Int)) (a b : Int) : decide (0 ≤ ix2 l a b) = has2 l a b := by
  induction l with
  | nil => simp [ix2, has2]
  | cons x l ih =>
    have hg := ix2_ge l a b
    simp only [has2, List.any_cons] at ih ⊢
    rw [← ih]
    cases he : eq2 a b x.1 x.2
    · by_cases h0 : ix2 l a b < 0
      · simp [ix2, he, h0]
      · simp [ix2, he, h0]
        omega
    · simp [ix2, he]
set_option maxHeartbeats 4000000 in
theorem index2_any (A : Option Addr) (n c : Nat) (l : List (Int × Int)) (x y : Int) (w : World) (h : Rws p2 2 w w.heap.size A n c l) :
    Calls Try.prog 118 #[.slice A n c, .agg #[.int .i64 x, .int .i64 y]] w fun e w' => Below w.heap.size w w' ∧ e = .returned (.int .i64 (ix2 l x y)) := by
  have hcap := h.cap
  have hmax := h.max
  have HLEN := Lib.hid h.len
  have H : Hid (∀ w', Below w.heap.size w w' → Rws p2 2 w' w.heap.size A n c l) := fun w' hb => h.below hb (Nat.le_refl _) (Nat.le_refl _)
  obtain ⟨R, hR⟩ : ∃ R, ix2 l x y = R := ⟨_, rfl⟩
  have HR := Lib.hid hR
  rw [hR]
  clear h hR
  go_enter Try.func118, Try.ntmps118
  go_wp2
  go_loopw [5, 8] (fun _ i wr => ∃ k : Nat, k ≤ n ∧ i = .int .i64 k ∧ Hid (has2 (l.take k) x y = false) ∧ Hid (Bk wr w.heap.size 23 #[.int .i64 x, .int .i64 y]) ∧ Hid (Below w.heap.size w wr)) (fun _ i _ => n - (intOf i).toNat)
  case atStart => exact ⟨0, Nat.zero_le _, rfl, Lib.hid rfl, Lib.hid (Bk.at_ rfl), Lib.hid (by repeat (first | with_reducible exact Below.refl _ _ | with_reducible assumption | with_reducible refine Below.drew ?_ | with_reducible refine Below.drewN ?_ _ | with_reducible refine Below.alloc2 ?_ _ | with_reducible refine Below.alloc ?_ (by first | omega | (simp <;> omega)) _ | with_reducible refine Below.setCell ?_ (by first | omega | (simp <;> omega)) _ | with_reducible refine Below.step2 (by with_reducible assumption) ?_ | with_reducible refine Below.step (by with_reducible assumption) ?_ (by first | omega | (simp <;> omega))))⟩
  case round =>
    obtain ⟨k, hk, rfl, HV, HXB, HB⟩ := hrel
    have ow := HB.out.size
    have oxw := HXB.out.lt
    obtain ⟨⟨u0, u1⟩, -⟩ := HXB.out.two
    by_cases hlt : k < n
    · obtain ⟨b, o, ⟨xa, xb⟩, rfl, hb, hx, c0, c1⟩ := (H.out _ HB.out).p2 hlt
      dsimp only at c0 c1
      have HX := Lib.hid hx
      have ob : b < wr.heap.size := by omega
      obtain ⟨v, hv⟩ : ∃ v, eq2 x y xa xb = v := ⟨_, rfl⟩
      have hq := fun W => eq_arr2 x y xa xb W
      simp only [hv] at hq
      have HE := Lib.hid hv
      clear hx hv
      cases v
      · go_wp2
        go_quiet (fail)
        have hb1 : Below w.heap.size w (wr.drewN nq) := Below.drewN HB.out _
        have hbx1 : Bk (wr.drewN nq) w.heap.size 23 #[.int .i64 x, .int .i64 y] := HXB.out.drewN _
        generalize wr.drewN nq = W1 at hb1 hbx1 ⊢
        have HB1 := Lib.hid hb1
        have HX1 := Lib.hid hbx1
        clear hb1 hbx1
        go_wp2
        go_roundw
        case rel => exact ⟨k + 1, by omega, by go_num, Lib.hid (by rw [take_step HX.out]; have h1 := HV.out; unfold has2 at h1 ⊢; rw [List.any_append, h1]; simp [HE.out]), HX1, HB1⟩
        case measure => simp [intOf]; omega
      · go_wp2
        go_quiet (fail)
        have hb1 : Below w.heap.size w (wr.drewN nq) := Below.drewN HB.out _
        generalize wr.drewN nq = W1 at hb1 ⊢
        have HB1 := Lib.hid hb1
        clear hb1
        go_wp2
        go_ret
        exact ⟨HB1.out, ret_int (by rw [← HR.out]; exact (ix2_at HX.out HV.out HE.out).symm)⟩
    · go_wp2
      go_ret
      refine ⟨HB.out, ret_int ?_⟩
      have := HV.out
      rw [List.take_of_length_le (by rw [HLEN.out]; omega)] at this
      rw [← HR.out]
      exact (ix2_none this).symm
set_option maxHeartbeats 2000000 in
theorem contains2_any (A : Option Addr) (n c : Nat) (l : List (Int × Int)) (x y : Int) (w : World) (h : Rws p2 2 w w.heap.size A n c l) :
    Calls Try.prog 104 #[.slice A n c, .agg #[.int .i64 x, .int .i64 y]] w fun e w' => Below w.heap.size w w' ∧ e = .returned (.bool (has2 l x y)) := by
  obtain ⟨I, hI⟩ : ∃ I, ix2 l x y = I := ⟨_, rfl⟩
  have HE : Hid (decide (I ≥ 0) = has2 l x y) := Lib.hid (by rw [← hI]; exact ix2_has l x y)
  have IX : Hid (∀ W, Below w.heap.size w W → Calls Try.prog 118 #[.slice A n c, .agg #[.int .i64 x, .int .i64 y]] W fun e w' => Below W.heap.size W w' ∧ e = .returned (.int .i64 I)) := Lib.hid fun W hW => by rw [← hI]; exact index2_any A n c l x y W (h.below hW (Nat.le_refl _) hW.size)
  clear h hI
  have HB0 : Hid (Below w.heap.size w (w.alloc (.cells #[.int .i64 x, .int .i64 y] 23))) := Lib.hid (by repeat (first | with_reducible exact Below.refl _ _ | with_reducible assumption | with_reducible refine Below.drew ?_ | with_reducible refine Below.drewN ?_ _ | with_reducible refine Below.alloc2 ?_ _ | with_reducible refine Below.alloc ?_ (by first | omega | (simp <;> omega)) _ | with_reducible refine Below.setCell ?_ (by first | omega | (simp <;> omega)) _ | with_reducible refine Below.step2 (by with_reducible assumption) ?_ | with_reducible refine Below.step (by with_reducible assumption) ?_ (by first | omega | (simp <;> omega))))
  have HBd : Hid (Below w.heap.size w (w.alloc (.cells #[.int .i64 x, .int .i64 y] 23)).drew) := Lib.hid HB0.out.drew
  go_enter Try.func104, Try.ntmps104
  go_wp2_with (go_at_call 118; go_loud (with_reducible refine (IX.out _ HB0.out).mono ?_; rintro e w1 ⟨hb1, rfl⟩; have HB1 : Hid (Below w.heap.size w w1) := Lib.hid (HB0.out.trans (hb1.mono HB0.out.size)); clear hb1))
  go_ret
  exact ⟨HB1.out, ret_bool HE.out⟩

end Go.Proofs.Ytmcefodfppdajaa
