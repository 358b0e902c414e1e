/- Walks: leftOf, bends, placeError. -/
import Derived.Test.YtbfbjpnmgcpjlaaAlt
namespace Go.Proofs.Ytbfbjpnmgcpjlaa
open Go.RowKit

theorem set_one (pre post : List Value) (k : Nat) (hk : pre.length = k) (a v : Value) : (pre ++ a :: post).set k v = pre ++ v :: post := by
  subst hk
  simp [List.set_append_right]
theorem Bk.set_one {w : World} {g t : Nat} {pre post : List Value} {k : Nat} {a : Value} (h : Bk w g t (pre ++ a :: post).toArray) (hk : pre.length = k) (v : Value) : Bk (w.setCell ⟨g, k, none⟩ v) g t (pre ++ v :: post).toArray := by
  have := h.set_ k v
  simp only [List.setIfInBounds_toArray] at this
  rwa [Go.Proofs.Ytbfbjpnmgcpjlaa.set_one pre post k hk] at this
theorem Bk.cells_one {w : World} {g t : Nat} {pre post : List Value} {k : Nat} {a : Value} (h : Bk w g t (pre ++ a :: post).toArray) (hk : pre.length = k) : w.cell? ⟨g, k, none⟩ = some a ∧ w.frozen? ⟨g, k, none⟩ = false := by
  subst hk
  exact ⟨by rw [h.cell]; simp, h.frozen _⟩
theorem zs_one (m : Nat) : zs (m + 1) = .int .i64 0 :: zs m := by simp [zs, List.replicate_succ]

/-- The direction to the left. -/
def lefts (d : Int) : Int := (d + 1) % 4
set_option maxHeartbeats 400000 in
theorem leftOf_any (d : Int) (w : World) (h1 : -1 ≤ d) (h2 : d ≤ 3) : Calls Try.prog 74 #[.int .i64 d] w fun e w' => w = w' ∧ e = .returned (.int .i64 (lefts d)) := by
  go_enter Try.func74, Try.ntmps74
  go_wp2
  go_ret
  exact ⟨rfl, rfl⟩

/-- What a corner is: 1 outer, -1 inner. -/
def bendK (ss : List Side) (k : Nat) : Int := if (sd ss k).dir = lefts (sd ss (pv ss.length k)).dir then 1 else -1
def bendsTo (ss : List Side) (k : Nat) : List Int := (List.range k).map (bendK ss)
def bends (ss : List Side) : List Int := bendsTo ss ss.length
theorem bendsTo_length (ss : List Side) (k : Nat) : (bendsTo ss k).length = k := by simp [bendsTo]
theorem bendsTo_succ (ss : List Side) (k : Nat) : bendsTo ss (k + 1) = bendsTo ss k ++ [bendK ss k] := by simp [bendsTo, List.range_succ]

theorem info_int : (Try.prog.info? 3).map (fun i => (i.zero, i.size, i.bytes)) = some (some (.int .i64 0), 1, 8) := by kernel_rfl

set_option maxRecDepth 100000 in
set_option maxHeartbeats 2000000 in
theorem bends_any (A : Option Addr) (n c : Nat) (ss : List Side) (w : World) (h : Walls w w.heap.size A n c ss) (hn : n ≤ 1099511627776) (hd : ∀ k, k < n → -1 ≤ (sd ss k).dir ∧ (sd ss k).dir ≤ 3) :
    Calls Try.prog 54 #[.slice A n c] w fun e w' => Below w.heap.size w w' ∧ ∃ A', e = .returned (.slice A' n n) ∧ Nums w' w'.heap.size A' n n (bends ss) := by
  have hcap := h.cap
  have hmax := h.max
  have HLEN := Lib.hid h.len
  have H : Hid (∀ w', Below w.heap.size w w' → Walls w' w'.heap.size A n c ss) := fun w' hb => h.below hb (Nat.le_refl _) hb.size
  obtain ⟨i0, hi, hz0, hz1, hz2⟩ := info_parts info_int
  have hmk := make_any (P := Try.prog) 48 3 i0 _ Try.underlying48 hi hz0 hz1 rfl (by omega) n (by rw [hz2]; omega) (by omega)
  have hfd := field_dir
  have HD := Lib.hid hd
  clear h hi hz0 hz1 hz2 hd
  go_enter Try.func54, Try.ntmps54
  go_wp2
  clear hmk
  go_loopw [11] (fun i wr => ∃ k : Nat, k ≤ n ∧ i = .int .i64 k ∧ Bk wr w.heap.size 3 (i64s (bendsTo ss k) ++ zs (n - k)).toArray ∧ Below w.heap.size w wr) (fun i _ => n - (intOf i).toNat)
  case atStart => exact ⟨0, Nat.zero_le _, rfl, by simpa [bendsTo, i64s] using Bk.alloc_ w 3 (zs n).toArray, (by repeat (first | with_reducible exact Below.refl _ _ | with_reducible assumption | with_reducible refine Below.drew ?_ | with_reducible refine Below.drewN ?_ _ | with_reducible refine Below.alloc2 ?_ _ | with_reducible refine Below.alloc ?_ (by first | omega | (simp <;> omega)) _ | with_reducible refine Below.setCell ?_ (by first | omega | (simp <;> omega)) _ | with_reducible refine Below.step2 (by with_reducible assumption) ?_ | with_reducible refine Below.step (by with_reducible assumption) ?_ (by first | omega | (simp <;> omega))))⟩
  case round =>
    obtain ⟨k, hk, rfl, hbk, hb⟩ := hrel
    by_cases hlt : k < n
    · have hsz := hb.size
      have ho := hbk.lt
      obtain ⟨b, o, s, rfl, hbb, hx, c0, c1, c2, c3, c4, c5⟩ := (H.out _ hb).at_ hlt
      have HX := Lib.hid (sd_of hx)
      have hbk' := hbk
      rw [show n - k = (n - (k + 1)) + 1 from by omega, zs_one] at hbk'
      have hkl : (i64s (bendsTo ss k)).length = k := by rw [i64s_length, bendsTo_length]
      obtain ⟨q0, f0⟩ := hbk'.cells_one hkl
      have hpd := HD.out _ (pv_lt hlt)
      obtain ⟨hp1, hp2⟩ := hpd
      have HB := Lib.hid hb
      have HBK := Lib.hid hbk'
      have HKL := Lib.hid hkl
      clear hbk hb hbk' hkl hx
      have HK1 : Hid (∀ o : Obj, Bk ((wr.setCell ⟨w.heap.size, k, none⟩ (.int .i64 (-1))).alloc o) w.heap.size 3 (i64s (bendsTo ss k) ++ .int .i64 (-1) :: zs (n - (k + 1))).toArray) := Lib.hid fun o => (HBK.out.set_one HKL.out _).alloc o
      have HQ : Hid (bendK ss k = if s.dir = lefts (sd ss (pv n k)).dir then 1 else -1) := Lib.hid (by unfold bendK; rw [HX.out, HLEN.out])
      rcases hq : (s.dir == lefts (sd ss (pv n k)).dir)
      all_goals
        have HC := Lib.hid hq
        go_wp2
        have q5 : ((wr.setCell ⟨w.heap.size, k, none⟩ (.int .i64 (-1))).alloc (.cells #[.int .i64 s.x1, .int .i64 s.y1, .int .i64 s.x2, .int .i64 s.y2, .int .i64 s.len, .int .i64 s.dir] 59)).cell? ⟨wr.heap.size, 5, none⟩ = some (.int .i64 s.dir) := by
          have := (Bk.at_ (w := wr.setCell ⟨w.heap.size, k, none⟩ (.int .i64 (-1))) (g := wr.heap.size) (t := 59) (cs := #[.int .i64 s.x1, .int .i64 s.y1, .int .i64 s.x2, .int .i64 s.y2, .int .i64 s.len, .int .i64 s.dir]) (by simp [World.setCell])).cell 5
          simpa using this
        go_region_held3 (fun w' => w'.cell? ⟨wr.heap.size, 5, none⟩ = some (.int .i64 s.dir)) (go_keep)
          (first
            | (go_at_call 75; refine (before_any (some ⟨b, o, none⟩) n c k ss _ (H.out _ (by have hb := HB.out; exact (by repeat (first | with_reducible exact Below.refl _ _ | with_reducible assumption | with_reducible refine Below.drew ?_ | with_reducible refine Below.drewN ?_ _ | with_reducible refine Below.alloc2 ?_ _ | with_reducible refine Below.alloc ?_ (by first | omega | (simp <;> omega)) _ | with_reducible refine Below.setCell ?_ (by first | omega | (simp <;> omega)) _ | with_reducible refine Below.step2 (by with_reducible assumption) ?_ | with_reducible refine Below.step (by with_reducible assumption) ?_ (by first | omega | (simp <;> omega)))))) hlt hn).mono ?_; rintro e wd ⟨hbd, rfl⟩; obtain ⟨hcd, hfd⟩ := bcell hbd; have hzd := hbd.size; simp [World.setCell] at hzd; have q6 := (hcd wr.heap.size 5 (by simp [World.setCell])).trans q5; have kd := Bk.step hbd (Bk.drew (HK1.out _)) (by simp [World.setCell]; omega); have HKD := Lib.hid kd; obtain ⟨r0, g0⟩ := kd.cells_one HKL.out; have HBD := Lib.hid hbd; clear hbd kd)
            | (go_at_call 74; refine (leftOf_any _ _ hp1 hp2).mono ?_; rintro e wd ⟨rfl, rfl⟩))
        go_wp2
        go_roundw
        case rel =>
          have hb := HB.out
          have hbd := HBD.out
          refine ⟨k + 1, by omega, by go_num, ?_, (by repeat (first | with_reducible exact Below.refl _ _ | with_reducible assumption | with_reducible refine Below.drew ?_ | with_reducible refine Below.drewN ?_ _ | with_reducible refine Below.alloc2 ?_ _ | with_reducible refine Below.alloc ?_ (by first | omega | (simp <;> omega)) _ | with_reducible refine Below.setCell ?_ (by first | omega | (simp <;> omega)) _ | with_reducible refine Below.step2 (by with_reducible assumption) ?_ | with_reducible refine Below.step (by with_reducible assumption) ?_ (by first | omega | (simp <;> omega))))⟩
          rw [bendsTo_succ, HQ.out]
          have hc := HC.out
          first
            | (rw [if_pos (by simpa using hc)]; have := HKD.out.set_one HKL.out (.int .i64 1); simpa [i64s] using this)
            | (rw [if_neg (by simpa using hc)]; have := HKD.out; simpa [i64s] using this)
        case measure => simp [intOf]; omega
    · have e : k = n := by omega
      subst e
      have HB := Lib.hid hb
      have HBK := Lib.hid hbk
      clear hb hbk
      go_wp2
      go_ret
      refine ⟨HB.out, _, rfl, Nums.of_bk (t := 3) ?_ HBK.out.lt (by unfold bends; rw [bendsTo_length, HLEN.out]) (Nat.le_refl _) (by omega)⟩
      have := HBK.out
      unfold bends
      rw [HLEN.out]
      simpa [zs] using this

/-- The error of a place. -/
def placeErr (x y : Int) : Int := if inP (x, y) = true then 0 else 2
set_option maxHeartbeats 400000 in
theorem placeError_any (x y : Int) (w : World) : Calls Try.prog 59 #[.agg #[.int .i64 x, .int .i64 y]] w fun e w' => Below w.heap.size w w' ∧ e = .returned (.int .i64 (placeErr x y)) := by
  have hn := Nums.new (w.alloc (.cells #[.int .i64 x, .int .i64 y] 57)) 3 [x, y] 2 rfl (by omega) (w.heap.size + 1) (by simp)
  simp only [i64s, List.map] at hn
  have HN := Lib.hid hn
  clear hn
  have he : placeErr x y = if [x, y].all inB = true then 0 else 2 := by unfold placeErr inP; simp
  rw [he]
  clear he
  rcases hi : [x, y].all inB
  all_goals
    have HI := Lib.hid hi
    clear hi
    go_enter Try.func59, Try.ntmps59
    go_wp2_with (go_at_call 46; refine (inRange_any _ _ _ _ _ _ HN.out).mono ?_; rintro e w' ⟨rfl, rfl⟩; rw [HI.out])
    go_ret
    exact ⟨(by repeat (first | with_reducible exact Below.refl _ _ | with_reducible assumption | with_reducible refine Below.drew ?_ | with_reducible refine Below.drewN ?_ _ | with_reducible refine Below.alloc2 ?_ _ | with_reducible refine Below.alloc ?_ (by first | omega | (simp <;> omega)) _ | with_reducible refine Below.setCell ?_ (by first | omega | (simp <;> omega)) _ | with_reducible refine Below.step2 (by with_reducible assumption) ?_ | with_reducible refine Below.step (by with_reducible assumption) ?_ (by first | omega | (simp <;> omega)))), rfl⟩

end Go.Proofs.Ytbfbjpnmgcpjlaa
