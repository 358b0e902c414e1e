/- Chapter 9, walks: defects, names of events, what is plain; on both sides. -/
import Derived.Test.YtgjjjnofdjhikaaMapB9
import Derived.Test.YtgjjjnofdjhikaaRefName9
import Derived.Laws.StructEq
import Derived.Deep.RegionWith
import Derived.RegionTactic
namespace Go.Proofs.Ytgjjjnofdjhikaa
open Go.RowKit Go.Maps

theorem Bk.sixc {w : World} {g t : Nat} {a b c d e f : Value} (h : Bk w g t #[a, b, c, d, e, f]) : w.cell? ⟨g, 0, none⟩ = some a ∧ w.cell? ⟨g, 1, none⟩ = some b ∧ w.cell? ⟨g, 2, none⟩ = some c ∧ w.cell? ⟨g, 3, none⟩ = some d ∧ w.cell? ⟨g, 4, none⟩ = some e ∧ w.cell? ⟨g, 5, none⟩ = some f :=
  ⟨by simpa using h.cell 0, by simpa using h.cell 1, by simpa using h.cell 2, by simpa using h.cell 3, by simpa using h.cell 4, by simpa using h.cell 5⟩
set_option maxHeartbeats 1000000 in
theorem defectOf_any (xd xk xn : Int) (xp : ByteArray) (xs xg : Bool) (w : World) : Calls Try.prog 67 #[.agg #[.int .i64 xd, .int .i64 xk, .string xp, .int .i64 xn, .bool xs, .bool xg]] w fun e w' => Below w.heap.size w w' ∧ e = .returned (.agg #[.string xp, .int .i64 xn]) := by
  go_enter Try.func67, Try.ntmps67
  go_wp2
  refine bodyPost_ret (v := .agg #[.string xp, .int .i64 xn]) (by simp [results, Try.results67, go_sem]) rfl ⟨(by repeat (first | with_reducible exact Below.refl _ _ | with_reducible assumption | with_reducible refine Below.drew ?_ | with_reducible refine Below.drewN ?_ _ | with_reducible refine Below.alloc2 ?_ _ | with_reducible refine Below.alloc ?_ (by first | omega | (simp <;> omega)) _ | with_reducible refine Below.setCell ?_ (by first | omega | (simp <;> omega)) _ | with_reducible refine Below.step2 (by with_reducible assumption) ?_ | with_reducible refine Below.step (by with_reducible assumption) ?_ (by first | omega | (simp <;> omega)))), rfl⟩

/-- An event with only what is named for its kind. -/
def nmN (k n : Int) : Int := if k = 0 ∨ k = 4 ∨ k = 5 then n else 0
def nmP (k : Int) (s : Bool) : Bool := if k = 1 ∨ k = 2 then s else false
def nmG (k : Int) (g : Bool) : Bool := if k = 4 then g else false
def plB (k n : Int) (s g : Bool) : Bool := decide (nmN k n = n) && (decide (nmP k s = s) && decide (nmG k g = g))
theorem seven {k : Int} (h : inR 0 6 k = true) : k = 0 ∨ k = 1 ∨ k = 2 ∨ k = 3 ∨ k = 4 ∨ k = 5 ∨ k = 6 := by
  have := inR_iff.1 h
  omega
set_option maxHeartbeats 4000000 in
theorem named_any (xd xk xn : Int) (xp : ByteArray) (xs xg : Bool) (w : World) (hk : inR 0 6 xk = true) : Calls Try.prog 71 #[.agg #[.int .i64 xd, .int .i64 xk, .string xp, .int .i64 xn, .bool xs, .bool xg]] w fun e w' => Below w.heap.size w w' ∧ e = .returned (.agg #[.int .i64 xd, .int .i64 xk, .string xp, .int .i64 (nmN xk xn), .bool (nmP xk xs), .bool (nmG xk xg)]) := by
  rcases seven hk with rfl | rfl | rfl | rfl | rfl | rfl | rfl
  · (
        go_enter Try.func71, Try.ntmps71
        go_wp2
        refine bodyPost_ret (v := .agg #[.int .i64 xd, .int .i64 0, .string xp, .int .i64 (xn), .bool (false), .bool (false)]) (by simp [results, Try.results71, go_sem]) rfl ⟨(by repeat (first | with_reducible exact Below.refl _ _ | with_reducible assumption | with_reducible refine Below.drew ?_ | with_reducible refine Below.drewN ?_ _ | with_reducible refine Below.alloc2 ?_ _ | with_reducible refine Below.alloc ?_ (by first | omega | (simp <;> omega)) _ | with_reducible refine Below.setCell ?_ (by first | omega | (simp <;> omega)) _ | with_reducible refine Below.step2 (by with_reducible assumption) ?_ | with_reducible refine Below.step (by with_reducible assumption) ?_ (by first | omega | (simp <;> omega)))), rfl⟩)
  · (
        go_enter Try.func71, Try.ntmps71
        go_wp2
        refine bodyPost_ret (v := .agg #[.int .i64 xd, .int .i64 1, .string xp, .int .i64 (0), .bool (xs), .bool (false)]) (by simp [results, Try.results71, go_sem]) rfl ⟨(by repeat (first | with_reducible exact Below.refl _ _ | with_reducible assumption | with_reducible refine Below.drew ?_ | with_reducible refine Below.drewN ?_ _ | with_reducible refine Below.alloc2 ?_ _ | with_reducible refine Below.alloc ?_ (by first | omega | (simp <;> omega)) _ | with_reducible refine Below.setCell ?_ (by first | omega | (simp <;> omega)) _ | with_reducible refine Below.step2 (by with_reducible assumption) ?_ | with_reducible refine Below.step (by with_reducible assumption) ?_ (by first | omega | (simp <;> omega)))), rfl⟩)
  · (
        go_enter Try.func71, Try.ntmps71
        go_wp2
        refine bodyPost_ret (v := .agg #[.int .i64 xd, .int .i64 2, .string xp, .int .i64 (0), .bool (xs), .bool (false)]) (by simp [results, Try.results71, go_sem]) rfl ⟨(by repeat (first | with_reducible exact Below.refl _ _ | with_reducible assumption | with_reducible refine Below.drew ?_ | with_reducible refine Below.drewN ?_ _ | with_reducible refine Below.alloc2 ?_ _ | with_reducible refine Below.alloc ?_ (by first | omega | (simp <;> omega)) _ | with_reducible refine Below.setCell ?_ (by first | omega | (simp <;> omega)) _ | with_reducible refine Below.step2 (by with_reducible assumption) ?_ | with_reducible refine Below.step (by with_reducible assumption) ?_ (by first | omega | (simp <;> omega)))), rfl⟩)
  · (
        go_enter Try.func71, Try.ntmps71
        go_wp2
        refine bodyPost_ret (v := .agg #[.int .i64 xd, .int .i64 3, .string xp, .int .i64 (0), .bool (false), .bool (false)]) (by simp [results, Try.results71, go_sem]) rfl ⟨(by repeat (first | with_reducible exact Below.refl _ _ | with_reducible assumption | with_reducible refine Below.drew ?_ | with_reducible refine Below.drewN ?_ _ | with_reducible refine Below.alloc2 ?_ _ | with_reducible refine Below.alloc ?_ (by first | omega | (simp <;> omega)) _ | with_reducible refine Below.setCell ?_ (by first | omega | (simp <;> omega)) _ | with_reducible refine Below.step2 (by with_reducible assumption) ?_ | with_reducible refine Below.step (by with_reducible assumption) ?_ (by first | omega | (simp <;> omega)))), rfl⟩)
  · go_enter Try.func71, Try.ntmps71
    go_wp2
    go_region
    all_goals
      go_wp2
      refine bodyPost_ret (v := .agg #[.int .i64 xd, .int .i64 4, .string xp, .int .i64 xn, .bool false, .bool xg]) (by simp [results, Try.results71, go_sem]) rfl ⟨(by repeat (first | with_reducible exact Below.refl _ _ | with_reducible assumption | with_reducible refine Below.drew ?_ | with_reducible refine Below.drewN ?_ _ | with_reducible refine Below.alloc2 ?_ _ | with_reducible refine Below.alloc ?_ (by first | omega | (simp <;> omega)) _ | with_reducible refine Below.setCell ?_ (by first | omega | (simp <;> omega)) _ | with_reducible refine Below.step2 (by with_reducible assumption) ?_ | with_reducible refine Below.step (by with_reducible assumption) ?_ (by first | omega | (simp <;> omega)))), rfl⟩
  · (
        go_enter Try.func71, Try.ntmps71
        go_wp2
        refine bodyPost_ret (v := .agg #[.int .i64 xd, .int .i64 5, .string xp, .int .i64 (xn), .bool (false), .bool (false)]) (by simp [results, Try.results71, go_sem]) rfl ⟨(by repeat (first | with_reducible exact Below.refl _ _ | with_reducible assumption | with_reducible refine Below.drew ?_ | with_reducible refine Below.drewN ?_ _ | with_reducible refine Below.alloc2 ?_ _ | with_reducible refine Below.alloc ?_ (by first | omega | (simp <;> omega)) _ | with_reducible refine Below.setCell ?_ (by first | omega | (simp <;> omega)) _ | with_reducible refine Below.step2 (by with_reducible assumption) ?_ | with_reducible refine Below.step (by with_reducible assumption) ?_ (by first | omega | (simp <;> omega)))), rfl⟩)
  · (
        go_enter Try.func71, Try.ntmps71
        go_wp2
        refine bodyPost_ret (v := .agg #[.int .i64 xd, .int .i64 6, .string xp, .int .i64 (0), .bool (false), .bool (false)]) (by simp [results, Try.results71, go_sem]) rfl ⟨(by repeat (first | with_reducible exact Below.refl _ _ | with_reducible assumption | with_reducible refine Below.drew ?_ | with_reducible refine Below.drewN ?_ _ | with_reducible refine Below.alloc2 ?_ _ | with_reducible refine Below.alloc ?_ (by first | omega | (simp <;> omega)) _ | with_reducible refine Below.setCell ?_ (by first | omega | (simp <;> omega)) _ | with_reducible refine Below.step2 (by with_reducible assumption) ?_ | with_reducible refine Below.step (by with_reducible assumption) ?_ (by first | omega | (simp <;> omega)))), rfl⟩)

theorem neq_gen (xd xk xn : Int) (xp : ByteArray) (xs xg : Bool) (N : Int) (S G : Bool) (w : World) : (binOp .neq 24 (.agg #[.int .i64 xd, .int .i64 xk, .string xp, .int .i64 xn, .bool xs, .bool xg]) (.agg #[.int .i64 xd, .int .i64 xk, .string xp, .int .i64 N, .bool S, .bool G])).run Try.prog w = .ok (.bool (!(decide (N = xn) && (decide (S = xs) && decide (G = xg))))) w := by
  by_cases h : N = xn
  · subst h
    cases S <;> cases G <;> cases xs <;> cases xg <;> (go_simp; try simp)
  · have h2 : (xn == N) = false := by simpa using Ne.symm h
    go_simp
theorem neq_named (xd xk xn : Int) (xp : ByteArray) (xs xg : Bool) (w : World) : (binOp .neq 24 (.agg #[.int .i64 xd, .int .i64 xk, .string xp, .int .i64 xn, .bool xs, .bool xg]) (.agg #[.int .i64 xd, .int .i64 xk, .string xp, .int .i64 (nmN xk xn), .bool (nmP xk xs), .bool (nmG xk xg)])).run Try.prog w = .ok (.bool (!plB xk xn xs xg)) w :=
  neq_gen xd xk xn xp xs xg _ _ _ w
theorem neq_same (xd xk xn : Int) (xp : ByteArray) (xs xg : Bool) (w : World) : (binOp .neq 24 (.agg #[.int .i64 xd, .int .i64 xk, .string xp, .int .i64 xn, .bool xs, .bool xg]) (.agg #[.int .i64 xd, .int .i64 xk, .string xp, .int .i64 xn, .bool xs, .bool xg])).run Try.prog w = .ok (.bool false) w := by
  go_simp

/-- Whether an event of a kind may have a platform. -/
def emptyS (p : ByteArray) : Bool := p.toList == (ByteArray.toList { data := #[] })
def platB (k : Int) (p : ByteArray) : Bool := if k = 3 then emptyS p else nameB p
theorem emptyS_size {p : ByteArray} : emptyS p = true ↔ p.size = 0 := by
  unfold emptyS
  rw [beq_iff_eq, ByteArray.toList_eq, ByteArray.toList_eq]
  constructor
  · intro h
    show p.data.size = 0
    rw [← Array.length_toList, h]
    rfl
  · intro h
    have h2 : p.data = #[] := Array.eq_empty_of_size_eq_zero h
    rw [h2]
set_option maxHeartbeats 1000000 in
theorem isPlatformOf_any (k : Int) (p : ByteArray) (hp : p.size ≤ 30) (w : World) : Calls Try.prog 70 #[.int .i64 k, .string p] w fun e w' => w = w' ∧ e = .returned (.bool (platB k p)) := by
  by_cases h : k = 3
  · subst h
    go_enter Try.func70, Try.ntmps70
    go_wp2
    go_ret
    exact ⟨rfl, ret_bool (by simp [platB, emptyS])⟩
  · have hb : (k == 3) = false := by simpa using h
    have HB : Hid (platB k p = nameB p) := Lib.hid (by simp [platB, h])
    go_enter Try.func70, Try.ntmps70
    go_wp2_with (go_at_call 84; with_reducible refine (isName_any p _ hp).mono ?_; rintro e w' ⟨rfl, rfl⟩)
    go_ret
    exact ⟨rfl, ret_bool HB.out.symm⟩
set_option maxHeartbeats 1000000 in
theorem has_any (A : Option Addr) (n c B : Nat) (l : List Int) (x : Int) (w : World) (h : Nums w B A n c l) :
    Calls Try.prog 40 #[.slice A n c, .int .i64 x] w fun e w' => w = w' ∧ e = .returned (.bool (l.contains x)) := by
  have hcap := h.cap
  have hmax := h.max
  have HLEN := Lib.hid h.len
  obtain ⟨R, hR⟩ : ∃ R, l.contains x = R := ⟨_, rfl⟩
  have HR := Lib.hid hR
  rw [hR]
  clear hR
  go_enter Try.func40, Try.ntmps40
  go_wp2
  go_loop [5] (fun i => ∃ k : Nat, k ≤ n ∧ i = .int .i64 k ∧ Hid ((l.drop k).contains x = R)) (fun i => n - (intOf i).toNat)
  case atStart => exact ⟨0, Nat.zero_le _, rfl, Lib.hid (by simpa using HR.out)⟩
  case round =>
    obtain ⟨k, hk, rfl, HV⟩ := hrel
    by_cases hlt : k < n
    · obtain ⟨b, o, y, rfl, hb, hy, hc⟩ := h.at_ hlt
      have HD : Hid (l.drop k = y :: l.drop (k + 1)) := Lib.hid (by
        obtain ⟨hkl, hxl⟩ := List.getElem?_eq_some_iff.1 hy
        rw [← hxl]
        exact List.drop_eq_getElem_cons hkl)
      clear hy
      by_cases he : y = x
      · subst he
        go_wp2
        go_ret
        exact ⟨rfl, ret_bool (by rw [← HV.out, HD.out]; simp)⟩
      · have heb : (y == x) = false := by simpa using he
        have heb2 : (x == y) = false := by simpa using Ne.symm he
        go_wp2
        go_round
        case rel => exact ⟨k + 1, by omega, by go_num, Lib.hid (by rw [← HV.out, HD.out, List.contains_cons, heb2]; rfl)⟩
        case measure => simp [intOf]; omega
    · go_wp2
      go_ret
      refine ⟨rfl, ret_bool ?_⟩
      rw [← HV.out, List.drop_eq_nil_of_le (by rw [HLEN.out]; omega)]
      rfl

end Go.Proofs.Ytgjjjnofdjhikaa
