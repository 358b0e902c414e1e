/- Chapter 8, walks: the reference's Count. -/
import Derived.Test.YtmcefodfppdajaaTot8
namespace Go.Proofs.Ytmcefodfppdajaa
open Go.RowKit Go.Deep

theorem cntS_bd2 {k : Sh} : ∀ {l : List Q4}, (∀ x ∈ l, -100000000000 ≤ x.c ∧ x.c ≤ 100000000000) → -100000000000 * (l.length : Int) ≤ cntS l k ∧ cntS l k ≤ 100000000000 * (l.length : Int)
  | [], _ => by simp [cntS]
  | x :: l, h => by
    have h1 := h x (by simp)
    have h2 := cntS_bd2 (k := k) (l := l) fun y hy => h y (by simp [hy])
    rw [cntS, List.length_cons]
    split <;> omega
set_option maxRecDepth 100000 in
set_option maxHeartbeats 16000000 in
theorem refCount_any (A : Option Addr) (n ca : Nat) (l : List Q4) (part : ByteArray) (x y : Int) (w : World) (h : Rws Q4.cs 4 w w.heap.size A n ca l) (hn : n ≤ 1000) (hb : ∀ x ∈ l, -100000000000 ≤ x.c ∧ x.c ≤ 100000000000) :
    Calls Try.prog 21 #[.slice A n ca, .string part, .agg #[.int .i64 x, .int .i64 y]] w fun e w' => Below w.heap.size w w' ∧ e = .returned (.int .i64 (cntS l (part, x, y))) := by
  have hcap := h.cap
  have hmax := h.max
  have HLEN := Lib.hid h.len
  have HBD := Lib.hid hb
  have H : Hid (∀ w', Below w.heap.size w w' → Rws Q4.cs 4 w' w.heap.size A n ca l) := Lib.hid fun w' hb => h.below hb (Nat.le_refl _) (Nat.le_refl _)
  clear h hb
  go_enter Try.func21, Try.ntmps21
  go_wp2
  go_loopw [7, 8] (fun s i wr => ∃ k : Nat, k ≤ n ∧ s = .int .i64 (cntS (l.take k) (part, x, y)) ∧ i = .int .i64 k ∧ Hid (Bk wr w.heap.size 23 #[.int .i64 x, .int .i64 y]) ∧ Hid (Below w.heap.size w wr)) (fun _ i _ => n - (intOf i).toNat)
  case atStart => exact ⟨0, Nat.zero_le _, rfl, rfl, Lib.hid (Bk.at_ rfl), Lib.hid (by repeat (first | with_reducible exact Below.refl _ _ | with_reducible assumption | with_reducible refine Below.drew ?_ | with_reducible refine Below.drewN ?_ _ | with_reducible refine Below.alloc2 ?_ _ | with_reducible refine Below.alloc ?_ (by first | omega | (simp <;> omega)) _ | with_reducible refine Below.setCell ?_ (by first | omega | (simp <;> omega)) _ | with_reducible refine Below.step2 (by with_reducible assumption) ?_ | with_reducible refine Below.step (by with_reducible assumption) ?_ (by first | omega | (simp <;> omega))))⟩
  case round =>
    obtain ⟨k, hk, rfl, rfl, HBX, HB⟩ := hrel
    have ow := HB.out.size
    have oxw := HBX.out.lt
    obtain ⟨⟨u0, u1⟩, -⟩ := HBX.out.two
    by_cases hlt : k < n
    · obtain ⟨b, o, ⟨ys, ya, yb, yc⟩, rfl, hbb, hy, c0, c1, c2, c3⟩ := (H.out _ HB.out).q4 hlt
      dsimp only at c0 c1 c2 c3
      have HY := Lib.hid hy
      have ob : b < wr.heap.size := by omega
      have hyc := HBD.out _ (List.mem_of_getElem? hy)
      dsimp only at hyc
      have hsum := cntS_bd2 (k := (part, x, y)) (l := l.take k) fun z hz => HBD.out z (List.mem_of_mem_take hz)
      have hll : ((l.take k).length : Int) ≤ 1000 := by simp; omega
      obtain ⟨v, hv⟩ : ∃ v, (ys.toList == part.toList) = v := ⟨_, rfl⟩
      have HST := Lib.hid (cntS_step hy (part, x, y))
      have HEQ : Hid (eqS ys part = v) := Lib.hid hv
      obtain ⟨T, hT⟩ : ∃ T, cntS (l.take k) (part, x, y) = T := ⟨_, rfl⟩
      rw [hT] at hsum ⊢
      have HT := Lib.hid hT
      have hw1 : IntKind.i64.wrap (T + yc) = T + yc := IntWalk.i64_in _ (by omega)
      clear hT hy
      cases v
      · have HE : Hid (cntS (l.take (k + 1)) (part, x, y) = T) := Lib.hid (by
          rw [HST.out, HT.out, if_neg (fun e => eqS_not.1 HEQ.out (by simpa [keyQ] using congrArg Prod.fst e))]; simp)
        go_wp2
        go_quiet (fail)
        have hb1 : Below w.heap.size w (wr.drewN nq) := Below.drewN HB.out _
        have hbx1 : Bk (wr.drewN nq) w.heap.size 23 #[.int .i64 x, .int .i64 y] := HBX.out.drewN _
        generalize wr.drewN nq = W1 at hb1 hbx1 ⊢
        have HB1 := Lib.hid hb1
        obtain ⟨d0, d1, d2, d3⟩ := (H.out _ hb1).q4x HY.out
        have ow1 := hb1.size
        have ob1 : b < W1.heap.size := by omega
        have HBX1 := Lib.hid hbx1
        clear hb1 hbx1
        go_wp2
        go_roundw
        case rel => exact ⟨k + 1, by omega, by rw [HE.out], by go_num, HBX1, HB1⟩
        case measure => simp [intOf]; omega
      · obtain ⟨v2, hv2⟩ : ∃ v, (ya == x) = v := ⟨_, rfl⟩
        cases v2
        · have HE : Hid (cntS (l.take (k + 1)) (part, x, y) = T) := Lib.hid (by
            rw [HST.out, HT.out, if_neg (fun e => by have := congrArg (fun q : Sh => q.2.1) e; simp [keyQ] at this; simp [this] at hv2)]; simp)
          go_wp2
          go_quiet (fail)
          have hb1 : Below w.heap.size w (wr.drewN nq) := Below.drewN HB.out _
          have hbx1 : Bk (wr.drewN nq) w.heap.size 23 #[.int .i64 x, .int .i64 y] := HBX.out.drewN _
          generalize wr.drewN nq = W1 at hb1 hbx1 ⊢
          have HB1 := Lib.hid hb1
          obtain ⟨d0, d1, d2, d3⟩ := (H.out _ hb1).q4x HY.out
          have ow1 := hb1.size
          have ob1 : b < W1.heap.size := by omega
          have HBX1 := Lib.hid hbx1
          clear hb1 hbx1
          go_wp2
          go_roundw
          case rel => exact ⟨k + 1, by omega, by rw [HE.out], by go_num, HBX1, HB1⟩
          case measure => simp [intOf]; omega
        · obtain ⟨v3, hv3⟩ : ∃ v, (yb == y) = v := ⟨_, rfl⟩
          cases v3
          · have HE : Hid (cntS (l.take (k + 1)) (part, x, y) = T) := Lib.hid (by
              rw [HST.out, HT.out, if_neg (fun e => by have := congrArg (fun q : Sh => q.2.2) e; simp [keyQ] at this; simp [this] at hv3)]; simp)
            go_wp2
            go_quiet (fail)
            have hb1 : Below w.heap.size w (wr.drewN nq) := Below.drewN HB.out _
            have hbx1 : Bk (wr.drewN nq) w.heap.size 23 #[.int .i64 x, .int .i64 y] := HBX.out.drewN _
            generalize wr.drewN nq = W1 at hb1 hbx1 ⊢
            have HB1 := Lib.hid hb1
            obtain ⟨d0, d1, d2, d3⟩ := (H.out _ hb1).q4x HY.out
            have ow1 := hb1.size
            have ob1 : b < W1.heap.size := by omega
            have HBX1 := Lib.hid hbx1
            clear hb1 hbx1
            go_wp2
            go_roundw
            case rel => exact ⟨k + 1, by omega, by rw [HE.out], by go_num, HBX1, HB1⟩
            case measure => simp [intOf]; omega
          · have HE : Hid (cntS (l.take (k + 1)) (part, x, y) = T + yc) := Lib.hid (by
              have e1 := eqS_iff.1 HEQ.out
              have e2 : ya = x := by simpa using hv2
              have e3 : yb = y := by simpa using hv3
              rw [HST.out, HT.out, if_pos (by rw [e1, e2, e3]; rfl)])
            go_wp2
            go_quiet (fail)
            have hb1 : Below w.heap.size w (wr.drewN nq) := Below.drewN HB.out _
            have hbx1 : Bk (wr.drewN nq) w.heap.size 23 #[.int .i64 x, .int .i64 y] := HBX.out.drewN _
            generalize wr.drewN nq = W1 at hb1 hbx1 ⊢
            have HB1 := Lib.hid hb1
            obtain ⟨d0, d1, d2, d3⟩ := (H.out _ hb1).q4x HY.out
            have ow1 := hb1.size
            have ob1 : b < W1.heap.size := by omega
            have HBX1 := Lib.hid hbx1
            clear hb1 hbx1
            go_wp2
            go_roundw
            case rel => exact ⟨k + 1, by omega, by rw [HE.out], by go_num, HBX1, HB1⟩
            case measure => simp [intOf]; omega
    · obtain rfl : k = n := by omega
      have hkl : l.take k = l := List.take_of_length_le (by rw [HLEN.out]; omega)
      rw [hkl]
      go_wp2
      go_ret
      exact ⟨HB.out, rfl⟩

end Go.Proofs.Ytmcefodfppdajaa
