/- Chapter 8, walks: Total on both sides, the reference's Count, equal stocks. -/
import Derived.Test.YtmcefodfppdajaaRefNorm8
namespace Go.Proofs.Ytmcefodfppdajaa
open Go.RowKit Go.Deep

def totS : List Q4 → ByteArray → Int
  | [], _ => 0
  | x :: r, p => (if eqS x.s p then x.c else 0) + totS r p
theorem totS_append (p : ByteArray) : ∀ l m : List Q4, totS (l ++ m) p = totS l p + totS m p
  | [], m => by simp [totS]
  | x :: l, m => by
    rw [List.cons_append, totS, totS, totS_append p l m]
    omega
theorem totS_step {l : List Q4} {i : Nat} {x : Q4} (h : l[i]? = some x) (p : ByteArray) : totS (l.take (i + 1)) p = totS (l.take i) p + (if eqS x.s p then x.c else 0) := by
  rw [take_step h, totS_append]
  simp [totS]
theorem totS_bd {p : ByteArray} : ∀ {l : List Q4}, (∀ x ∈ l, 0 ≤ x.c ∧ x.c ≤ 100000000000) → 0 ≤ totS l p ∧ totS l p ≤ 100000000000 * (l.length : Int)
  | [], _ => by simp [totS]
  | x :: l, h => by
    have h1 := h x (by simp)
    have h2 := totS_bd (p := p) (l := l) fun y hy => h y (by simp [hy])
    rw [totS, List.length_cons]
    split <;> omega
set_option maxRecDepth 100000 in
set_option maxHeartbeats 8000000 in
theorem refTotal_any (A : Option Addr) (n ca : Nat) (l : List Q4) (part : ByteArray) (w : World) (h : Rws Q4.cs 4 w w.heap.size A n ca l) (hn : n ≤ 1000) (hb : ∀ x ∈ l, 0 ≤ x.c ∧ x.c ≤ 100000000000) :
    Calls Try.prog 22 #[.slice A n ca, .string part] w fun e w' => Below w.heap.size w w' ∧ e = .returned (.int .i64 (totS l part)) := by
  have hcap := h.cap
  have hmax := h.max
  have HLEN := Lib.hid h.len
  have HBD := Lib.hid hb
  have H : Hid (∀ w', Below w.heap.size w w' → Rws Q4.cs 4 w' w.heap.size A n ca l) := Lib.hid fun w' hb => h.below hb (Nat.le_refl _) (Nat.le_refl _)
  clear h hb
  go_enter Try.func22, Try.ntmps22
  go_wp2
  go_loopw [5, 6] (fun s i wr => ∃ k : Nat, k ≤ n ∧ s = .int .i64 (totS (l.take k) part) ∧ i = .int .i64 k ∧ Hid (Below w.heap.size w wr)) (fun _ i _ => n - (intOf i).toNat)
  case atStart => exact ⟨0, Nat.zero_le _, rfl, rfl, Lib.hid (Below.refl _ _)⟩
  case round =>
    obtain ⟨k, hk, rfl, rfl, HB⟩ := hrel
    have ow := HB.out.size
    by_cases hlt : k < n
    · obtain ⟨b, o, ⟨ys, ya, yb, yc⟩, rfl, hbb, hy, c0, c1, c2, c3⟩ := (H.out _ HB.out).q4 hlt
      dsimp only at c0 c1 c2 c3
      have ob : b < wr.heap.size := by omega
      have hyc := HBD.out _ (List.mem_of_getElem? hy)
      dsimp only at hyc
      have hsum := totS_bd (p := part) (l := l.take k) fun z hz => HBD.out z (List.mem_of_mem_take hz)
      have hll : ((l.take k).length : Int) ≤ 1000 := by simp; omega
      obtain ⟨v, hv⟩ : ∃ v, (ys.toList == part.toList) = v := ⟨_, rfl⟩
      have hst := totS_step hy part
      rw [show eqS ys part = v from hv] at hst
      have HST := Lib.hid hst
      obtain ⟨T, hT⟩ : ∃ T, totS (l.take k) part = T := ⟨_, rfl⟩
      rw [hT] at hsum ⊢
      have HT := Lib.hid hT
      have hw1 : IntKind.i64.wrap (T + yc) = T + yc := IntWalk.i64_in _ (by omega)
      clear hst hT hy
      cases v
      · go_wp2
        go_roundw
        case rel => exact ⟨k + 1, by omega, by rw [HST.out, HT.out]; simp, by go_num, Lib.hid (by have hb0 := HB.out; exact (by repeat (first | with_reducible exact Below.refl _ _ | with_reducible assumption | with_reducible refine Below.drew ?_ | with_reducible refine Below.drewN ?_ _ | with_reducible refine Below.alloc2 ?_ _ | with_reducible refine Below.alloc ?_ (by first | omega | (simp <;> omega)) _ | with_reducible refine Below.setCell ?_ (by first | omega | (simp <;> omega)) _ | with_reducible refine Below.step2 (by with_reducible assumption) ?_ | with_reducible refine Below.step (by with_reducible assumption) ?_ (by first | omega | (simp <;> omega)))))⟩
        case measure => simp [intOf]; omega
      · go_wp2
        go_roundw
        case rel => exact ⟨k + 1, by omega, by rw [HST.out, HT.out]; rfl, by go_num, Lib.hid (by have hb0 := HB.out; exact (by repeat (first | with_reducible exact Below.refl _ _ | with_reducible assumption | with_reducible refine Below.drew ?_ | with_reducible refine Below.drewN ?_ _ | with_reducible refine Below.alloc2 ?_ _ | with_reducible refine Below.alloc ?_ (by first | omega | (simp <;> omega)) _ | with_reducible refine Below.setCell ?_ (by first | omega | (simp <;> omega)) _ | with_reducible refine Below.step2 (by with_reducible assumption) ?_ | with_reducible refine Below.step (by with_reducible assumption) ?_ (by first | omega | (simp <;> omega)))))⟩
        case measure => simp [intOf]; omega
    · obtain rfl : k = n := by omega
      have hkl : l.take k = l := List.take_of_length_le (by rw [HLEN.out]; omega)
      rw [hkl]
      go_wp2
      go_ret
      exact ⟨HB.out, rfl⟩
set_option maxRecDepth 100000 in
set_option maxHeartbeats 8000000 in
theorem total_ok (A : Option Addr) (n ca : Nat) (l : List Q4) (part : ByteArray) (w : World) (h : Rws Q4.cs 4 w w.heap.size A n ca l) (hs : ∀ x ∈ l, x.s.size ≤ 30) (h0 : stockErr l = 0) :
    Calls Try.prog 16 #[.slice A n ca, .string part] w fun e w' => Below w.heap.size w w' ∧ e = .returned (.tuple #[.int .i64 (totS l part), .int .i64 0]) := by
  have hn : n ≤ 1000 := by have := (stock_all h0).1; have := h.len; omega
  have hb : ∀ x ∈ l, 0 ≤ x.c ∧ x.c ≤ 100000000000 := fun x hx => by have := (sE_sh ((stock_all h0).2 x hx) (hs x hx)).2; omega
  have CK : Hid (Calls Try.prog 18 #[.slice A n ca] w fun e w' => Below w.heap.size w w' ∧ e = .returned (.int .i64 0)) := Lib.hid (by have := check_any A n ca l w h hs; rwa [h0] at this)
  have hcap := h.cap
  have hmax := h.max
  have HLEN := Lib.hid h.len
  have HBD := Lib.hid hb
  have H : Hid (∀ w', Below w.heap.size w w' → Rws Q4.cs 4 w' w.heap.size A n ca l) := Lib.hid fun w' hb => h.below hb (Nat.le_refl _) (Nat.le_refl _)
  clear h hb hs h0
  go_enter Try.func16, Try.ntmps16
  go_wp2_with (go_at_call 18; with_reducible refine CK.out.mono ?_; rintro e w1 ⟨hb1, rfl⟩; have HB1 := Lib.hid hb1; clear hb1)
  go_loopw [7, 9, 17] (fun s _ i wr => ∃ k : Nat, k ≤ n ∧ s = .int .i64 (totS (l.take k) part) ∧ i = .int .i64 k ∧ Hid (Below w.heap.size w wr)) (fun _ _ i _ => n - (intOf i).toNat)
  case atStart => exact ⟨0, Nat.zero_le _, rfl, rfl, HB1⟩
  case round =>
    obtain ⟨k, hk, rfl, rfl, HB⟩ := hrel
    have ow := HB.out.size
    by_cases hlt : k < n
    · obtain ⟨b, o, ⟨ys, ya, yb, yc⟩, rfl, hbb, hy, c0, c1, c2, c3⟩ := (H.out _ HB.out).q4 hlt
      dsimp only at c0 c1 c2 c3
      have ob : b < wr.heap.size := by omega
      have hyc := HBD.out _ (List.mem_of_getElem? hy)
      dsimp only at hyc
      have hsum := totS_bd (p := part) (l := l.take k) fun z hz => HBD.out z (List.mem_of_mem_take hz)
      have hll : ((l.take k).length : Int) ≤ 1000 := by simp; omega
      obtain ⟨v, hv⟩ : ∃ v, (ys.toList == part.toList) = v := ⟨_, rfl⟩
      have hst := totS_step hy part
      rw [show eqS ys part = v from hv] at hst
      have HST := Lib.hid hst
      obtain ⟨T, hT⟩ : ∃ T, totS (l.take k) part = T := ⟨_, rfl⟩
      rw [hT] at hsum ⊢
      have HT := Lib.hid hT
      have hw1 : IntKind.i64.wrap (T + yc) = T + yc := IntWalk.i64_in _ (by omega)
      clear hst hT hy
      cases v
      · go_wp2
        go_roundw
        case rel => exact ⟨k + 1, by omega, by rw [HST.out, HT.out]; simp, by go_num, Lib.hid (by have hb0 := HB.out; exact (by repeat (first | with_reducible exact Below.refl _ _ | with_reducible assumption | with_reducible refine Below.drew ?_ | with_reducible refine Below.drewN ?_ _ | with_reducible refine Below.alloc2 ?_ _ | with_reducible refine Below.alloc ?_ (by first | omega | (simp <;> omega)) _ | with_reducible refine Below.setCell ?_ (by first | omega | (simp <;> omega)) _ | with_reducible refine Below.step2 (by with_reducible assumption) ?_ | with_reducible refine Below.step (by with_reducible assumption) ?_ (by first | omega | (simp <;> omega)))))⟩
        case measure => simp [intOf]; omega
      · go_wp2
        go_roundw
        case rel => exact ⟨k + 1, by omega, by rw [HST.out, HT.out]; rfl, by go_num, Lib.hid (by have hb0 := HB.out; exact (by repeat (first | with_reducible exact Below.refl _ _ | with_reducible assumption | with_reducible refine Below.drew ?_ | with_reducible refine Below.drewN ?_ _ | with_reducible refine Below.alloc2 ?_ _ | with_reducible refine Below.alloc ?_ (by first | omega | (simp <;> omega)) _ | with_reducible refine Below.setCell ?_ (by first | omega | (simp <;> omega)) _ | with_reducible refine Below.step2 (by with_reducible assumption) ?_ | with_reducible refine Below.step (by with_reducible assumption) ?_ (by first | omega | (simp <;> omega)))))⟩
        case measure => simp [intOf]; omega
    · obtain rfl : k = n := by omega
      have hkl : l.take k = l := List.take_of_length_le (by rw [HLEN.out]; omega)
      rw [hkl]
      go_wp2
      go_ret2
      exact ⟨HB.out, rfl⟩
set_option maxRecDepth 100000 in
set_option maxHeartbeats 8000000 in
theorem total_bad (A : Option Addr) (n ca : Nat) (l : List Q4) (part : ByteArray) (w : World) (h : Rws Q4.cs 4 w w.heap.size A n ca l) (hs : ∀ x ∈ l, x.s.size ≤ 30) (h0 : stockErr l ≠ 0) :
    Calls Try.prog 16 #[.slice A n ca, .string part] w fun e w' => Below w.heap.size w w' ∧ e = .returned (.tuple #[.int .i64 0, .int .i64 (stockErr l)]) := by
  obtain ⟨E, hE⟩ : ∃ E, stockErr l = E := ⟨_, rfl⟩
  have hq : (E != 0) = true := by rw [← hE]; simpa using h0
  have CK : Hid (Calls Try.prog 18 #[.slice A n ca] w fun e w' => Below w.heap.size w w' ∧ e = .returned (.int .i64 E)) := Lib.hid (by have := check_any A n ca l w h hs; rwa [hE] at this)
  rw [hE]
  clear hE h0 h hs
  go_enter Try.func16, Try.ntmps16
  go_wp2_with (go_at_call 18; with_reducible refine CK.out.mono ?_; rintro e w1 ⟨hb1, rfl⟩; have HB1 := Lib.hid hb1; clear hb1)
  go_ret2
  exact ⟨HB1.out, rfl⟩

end Go.Proofs.Ytmcefodfppdajaa
