/- Chapter 6: the ties of a pattern as a plain list; walks: CheckPattern, SameTies. -/
import Derived.Test.YtfnphhmcbdoojaaGreatDoorGr6
import Derived.Test.YtfnphhmcbdoojaaGreatDoorRefGrid6
import Derived.Deep.AppendLies
import Derived.Laws.OwnMore
import Derived.Maps.AppendAt
import Derived.OwnWalk
namespace Go.Proofs.YtfnphhmcbdoojaaGreatDoor
open Go.RowKit

section
variable {w w1 w2 : World} {base e size n : Nat} {v : Value} {xs : List Value}
theorem own_step (h : w1.ownsRow base e size v n xs) (hb : Below w1.heap.size w1 w2) : w2.ownsRow base e size v n xs :=
  h.kept (row := none) ⟨hb.os, hb.tape, hb.output, hb.size, fun i hi _ => hb.block i hi⟩ (by
    rcases h.2 with ⟨rfl, -⟩ | ⟨g, cap, cur, rfl, -⟩
    · exact .inl rfl
    · exact .inr (by simp [Value.ownBlock]))
/-- A row that the call owns, read as cells. -/
theorem Sl.of_own (h : w.ownsRow base e size v n xs) : ∃ A c, v = .slice A n c ∧ Sl w w.heap.size size A n c xs ∧ (A = none → n = 0 ∧ c = 0) := by
  rcases h.2 with ⟨rfl, rfl⟩ | ⟨g, cap, cur, rfl, hbg, hh, hnc, hm, hs, hx⟩
  · have : xs = [] := List.eq_nil_of_length_eq_zero (by have := h.1; omega)
    subst this
    exact ⟨none, 0, rfl, Sl.nil_ _ _ _, fun _ => ⟨rfl, rfl⟩⟩
  · refine ⟨_, cap, rfl, ?_, fun h => by cases h⟩
    have hb : Bk w g e cur := hh
    rw [← hx]
    exact hb.sl hb.lt hnc hm (by rw [hs]; exact Nat.mul_le_mul_right _ hnc)
end
theorem info_parts {P : Program} {t : TypeId} {z : Option Value} {s b : Nat} (h : (P.info? t).map (fun i => (i.zero, i.size, i.bytes)) = some (z, s, b)) : ∃ i0, P.info? t = some i0 ∧ i0.zero = z ∧ i0.size = s ∧ i0.bytes = b := by
  obtain ⟨i0, h0, h1⟩ := Option.map_eq_some_iff.1 h
  simp only [Prod.mk.injEq] at h1
  exact ⟨i0, h0, h1.1, h1.2.1, h1.2.2⟩
theorem info_tie : (Tryz.prog.info? 95).map (fun i => (i.zero, i.size, i.bytes)) = some (some (.agg #[.int .i64 0, .int .i64 0]), 2, 16) := by kernel_rfl

def tieOf (i r ri : Nat) : Int × Int := (((i : Nat) : Int), (((r + 1) * ri - 1 : Nat) : Int))
def rowTo (st ri sh i : Nat) : Nat → List (Int × Int)
  | 0 => []
  | r + 1 => rowTo st ri sh i r ++ (if i % st = (r * sh) % st then [tieOf i r ri] else [])
def selTo (st ri sh R : Nat) : Nat → List (Int × Int)
  | 0 => []
  | i + 1 => selTo st ri sh R i ++ rowTo st ri sh i R
theorem rowTo_len (st ri sh i : Nat) : ∀ r, (rowTo st ri sh i r).length ≤ r
  | 0 => Nat.le_refl _
  | r + 1 => by
    have := rowTo_len st ri sh i r
    simp only [rowTo, List.length_append]
    split <;> simp <;> omega
theorem selTo_len (st ri sh R : Nat) : ∀ i, (selTo st ri sh R i).length ≤ i * R
  | 0 => by simp [selTo]
  | i + 1 => by
    have := selTo_len st ri sh R i
    have := rowTo_len st ri sh i R
    simp only [selTo, List.length_append]
    rw [Nat.succ_mul]
    omega

def patErr (a b c : Int) : Int := if inR 1 30 a && (inR 1 30 b && inR 0 30 c) then 0 else 2
set_option maxHeartbeats 4000000 in
theorem refPattern_any (a b c : Int) (w : World) : Calls Tryz.prog 18 #[.agg #[.int .i64 a, .int .i64 b, .int .i64 c]] w fun e w' => Below w.heap.size w w' ∧ e = .returned (.int .i64 (patErr a b c)) := by
  unfold patErr
  obtain ⟨b1, e1⟩ : ∃ v, inR 1 30 a = v := ⟨_, rfl⟩
  obtain ⟨b2, e2⟩ : ∃ v, inR 1 30 b = v := ⟨_, rfl⟩
  obtain ⟨b3, e3⟩ : ∃ v, inR 0 30 c = v := ⟨_, rfl⟩
  rw [e1, e2, e3]
  have E1 := Lib.hid (within_b e1)
  have E2 := Lib.hid (within_b e2)
  have E3 := Lib.hid (within_b e3)
  clear e1 e2 e3
  cases b1
  · go_enter Tryz.func18, Tryz.ntmps18
    go_wp2_with (first
        | (go_at_call 46; with_reducible refine (E1.out _).mono ?_; rintro e w' ⟨rfl, rfl⟩)
        | (go_at_call 46; with_reducible refine (E2.out _).mono ?_; rintro e w' ⟨rfl, rfl⟩)
        | (go_at_call 46; with_reducible refine (E3.out _).mono ?_; rintro e w' ⟨rfl, rfl⟩))
    go_ret
    exact ⟨(by repeat (first | with_reducible exact Below.refl _ _ | with_reducible assumption | with_reducible refine Below.drew ?_ | with_reducible refine Below.drewN ?_ _ | with_reducible refine Below.alloc2 ?_ _ | with_reducible refine Below.alloc ?_ (by first | omega | (simp <;> omega)) _ | with_reducible refine Below.setCell ?_ (by first | omega | (simp <;> omega)) _ | with_reducible refine Below.step2 (by with_reducible assumption) ?_ | with_reducible refine Below.step (by with_reducible assumption) ?_ (by first | omega | (simp <;> omega)))), rfl⟩
  cases b2
  · go_enter Tryz.func18, Tryz.ntmps18
    go_wp2_with (first
        | (go_at_call 46; with_reducible refine (E1.out _).mono ?_; rintro e w' ⟨rfl, rfl⟩)
        | (go_at_call 46; with_reducible refine (E2.out _).mono ?_; rintro e w' ⟨rfl, rfl⟩)
        | (go_at_call 46; with_reducible refine (E3.out _).mono ?_; rintro e w' ⟨rfl, rfl⟩))
    go_ret
    exact ⟨(by repeat (first | with_reducible exact Below.refl _ _ | with_reducible assumption | with_reducible refine Below.drew ?_ | with_reducible refine Below.drewN ?_ _ | with_reducible refine Below.alloc2 ?_ _ | with_reducible refine Below.alloc ?_ (by first | omega | (simp <;> omega)) _ | with_reducible refine Below.setCell ?_ (by first | omega | (simp <;> omega)) _ | with_reducible refine Below.step2 (by with_reducible assumption) ?_ | with_reducible refine Below.step (by with_reducible assumption) ?_ (by first | omega | (simp <;> omega)))), rfl⟩
  cases b3
  · go_enter Tryz.func18, Tryz.ntmps18
    go_wp2_with (first
        | (go_at_call 46; with_reducible refine (E1.out _).mono ?_; rintro e w' ⟨rfl, rfl⟩)
        | (go_at_call 46; with_reducible refine (E2.out _).mono ?_; rintro e w' ⟨rfl, rfl⟩)
        | (go_at_call 46; with_reducible refine (E3.out _).mono ?_; rintro e w' ⟨rfl, rfl⟩))
    go_ret
    exact ⟨(by repeat (first | with_reducible exact Below.refl _ _ | with_reducible assumption | with_reducible refine Below.drew ?_ | with_reducible refine Below.drewN ?_ _ | with_reducible refine Below.alloc2 ?_ _ | with_reducible refine Below.alloc ?_ (by first | omega | (simp <;> omega)) _ | with_reducible refine Below.setCell ?_ (by first | omega | (simp <;> omega)) _ | with_reducible refine Below.step2 (by with_reducible assumption) ?_ | with_reducible refine Below.step (by with_reducible assumption) ?_ (by first | omega | (simp <;> omega)))), rfl⟩
  · go_enter Tryz.func18, Tryz.ntmps18
    go_wp2_with (first
        | (go_at_call 46; with_reducible refine (E1.out _).mono ?_; rintro e w' ⟨rfl, rfl⟩)
        | (go_at_call 46; with_reducible refine (E2.out _).mono ?_; rintro e w' ⟨rfl, rfl⟩)
        | (go_at_call 46; with_reducible refine (E3.out _).mono ?_; rintro e w' ⟨rfl, rfl⟩))
    go_ret
    exact ⟨(by repeat (first | with_reducible exact Below.refl _ _ | with_reducible assumption | with_reducible refine Below.drew ?_ | with_reducible refine Below.drewN ?_ _ | with_reducible refine Below.alloc2 ?_ _ | with_reducible refine Below.alloc ?_ (by first | omega | (simp <;> omega)) _ | with_reducible refine Below.setCell ?_ (by first | omega | (simp <;> omega)) _ | with_reducible refine Below.step2 (by with_reducible assumption) ?_ | with_reducible refine Below.step (by with_reducible assumption) ?_ (by first | omega | (simp <;> omega)))), rfl⟩

set_option maxHeartbeats 4000000 in
theorem sameTies_any (A A2 : Option Addr) (n c n2 c2 : Nat) (l : List (Int × Int)) (w : World) (h : Pts w w.heap.size A n c l) (h2 : Pts w w.heap.size A2 n2 c2 l) :
    Calls Tryz.prog 19 #[.slice A n c, .slice A2 n2 c2] w fun e w' => Below w.heap.size w w' ∧ e = .returned (.bool true) := by
  obtain rfl : n = n2 := by rw [← h.len, ← h2.len]
  have hcap := h.cap
  have hmax := h.max
  have H1 : Hid (∀ w', Below w.heap.size w w' → Pts w' w.heap.size A n c l) := fun w' hb => h.below hb (Nat.le_refl _) (Nat.le_refl _)
  have H2 : Hid (∀ w', Below w.heap.size w w' → Pts w' w.heap.size A2 n c2 l) := fun w' hb => h2.below hb (Nat.le_refl _) (Nat.le_refl _)
  have hcap2 := h2.cap
  have hmax2 := h2.max
  clear h h2
  go_enter Tryz.func19, Tryz.ntmps19
  go_wp2
  go_loopw [5] (fun i wr => ∃ k : Nat, k ≤ n ∧ i = .int .i64 k ∧ Below w.heap.size w wr) (fun i _ => n - (intOf i).toNat)
  case atStart => exact ⟨0, Nat.zero_le _, rfl, Below.refl _ _⟩
  case round =>
    obtain ⟨k, hk, rfl, hb⟩ := hrel
    by_cases hlt : k < n
    · obtain ⟨b, o, ⟨x, y⟩, rfl, hbb, hx, c0, c1⟩ := (H1.out _ hb).at_ hlt
      obtain ⟨b2, o2, ⟨x2, y2⟩, rfl, hbb2, hx2, d0, d1⟩ := (H2.out _ hb).at_ hlt
      rw [hx] at hx2
      obtain ⟨rfl, rfl⟩ : x = x2 ∧ y = y2 := by simpa using hx2
      dsimp only at c0 c1 d0 d1
      have HB := Lib.hid hb
      clear hb hx hx2
      go_wp2
      go_quiet (fail)
      go_wp2
      go_roundw
      case rel =>
        have hb0 := HB.out
        exact ⟨k + 1, by omega, by go_num, (by repeat (first | with_reducible exact Below.refl _ _ | with_reducible assumption | with_reducible refine Below.drew ?_ | with_reducible refine Below.drewN ?_ _ | with_reducible refine Below.alloc2 ?_ _ | with_reducible refine Below.alloc ?_ (by first | omega | (simp <;> omega)) _ | with_reducible refine Below.setCell ?_ (by first | omega | (simp <;> omega)) _ | with_reducible refine Below.step2 (by with_reducible assumption) ?_ | with_reducible refine Below.step (by with_reducible assumption) ?_ (by first | omega | (simp <;> omega))))⟩
      case measure => simp [intOf]; omega
    · have HB := Lib.hid hb
      clear hb
      go_wp2
      go_ret
      exact ⟨HB.out, rfl⟩

end Go.Proofs.YtfnphhmcbdoojaaGreatDoor
