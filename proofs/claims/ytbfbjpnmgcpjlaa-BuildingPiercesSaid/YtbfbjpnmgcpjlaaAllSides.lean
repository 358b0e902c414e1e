/- The walk of sides. -/
import Derived.Test.YtbfbjpnmgcpjlaaMake
namespace Go.Proofs.Ytbfbjpnmgcpjlaa
open Go.RowKit

/-- Side k; the first k sides; all of them. -/
def sideK (l : List (Int × Int)) (k : Nat) : Side := sideOf (pt l k) (pt l (nx l k))
def sidesTo (l : List (Int × Int)) (k : Nat) : List Side := (List.range k).map (sideK l)
def sides (l : List (Int × Int)) : List Side := sidesTo l l.length
theorem sidesTo_length (l : List (Int × Int)) (k : Nat) : (sidesTo l k).length = k := by simp [sidesTo]
theorem sidesTo_succ (l : List (Int × Int)) (k : Nat) : sidesTo l (k + 1) = sidesTo l k ++ [sideK l k] := by simp [sidesTo, List.range_succ]

theorem info_wall : (Try.prog.info? 59).map (fun i => (i.zero, i.size, i.bytes)) = some (some (.agg #[.int .i64 0, .int .i64 0, .int .i64 0, .int .i64 0, .int .i64 0, .int .i64 0]), 6, 48) := by kernel_rfl

set_option maxHeartbeats 2000000 in
theorem sides_any (A : Option Addr) (n c : Nat) (l : List (Int × Int)) (w : World) (h : Pts w w.heap.size A n c l) (hin : l.all inP = true) (hn : n ≤ 1099511627776) :
    Calls Try.prog 53 #[.slice A n c] w fun e w' => Below w.heap.size w w' ∧ ∃ A', e = .returned (.slice A' n n) ∧ Walls w' w'.heap.size A' n n (sides l) := by
  have hcap := h.cap
  have hmax := h.max
  have HLEN := Lib.hid h.len
  have HIN := Lib.hid hin
  have H : Hid (∀ w', Below w.heap.size w w' → Pts w' w'.heap.size A n c l) := fun w' hb => h.below hb (Nat.le_refl _) hb.size
  obtain ⟨i0, hi, hz0, hz1, hz2⟩ := info_parts info_wall
  have hmk := make_any (P := Try.prog) 45 59 i0 _ Try.underlying45 hi hz0 hz1 rfl (by omega) n (by rw [hz2]; omega) (by omega)
  clear h hin hi hz0 hz1 hz2
  go_enter Try.func53, Try.ntmps53
  go_wp2
  clear hmk
  go_loopw [10] (fun i wr => ∃ k : Nat, k ≤ n ∧ i = .int .i64 k ∧ Bk wr w.heap.size 59 (scells (sidesTo l k) ++ zs ((n - k) * 6)).toArray ∧ Below w.heap.size w wr) (fun i _ => n - (intOf i).toNat)
  case atStart => exact ⟨0, Nat.zero_le _, rfl, by simpa [sidesTo, scells] using Bk.alloc_ w 59 (zs (n * 6)).toArray, (by repeat (first | with_reducible exact Below.refl _ _ | with_reducible assumption | with_reducible refine Below.drew ?_ | with_reducible refine Below.drewN ?_ _ | with_reducible refine Below.alloc2 ?_ _ | with_reducible refine Below.alloc ?_ (by first | omega | (simp <;> omega)) _ | with_reducible refine Below.setCell ?_ (by first | omega | (simp <;> omega)) _ | with_reducible refine Below.step2 (by with_reducible assumption) ?_ | with_reducible refine Below.step (by with_reducible assumption) ?_ (by first | omega | (simp <;> omega))))⟩
  case round =>
    obtain ⟨k, hk, rfl, hbk, hb⟩ := hrel
    by_cases hlt : k < n
    · have hsz := hb.size
      have ho := hbk.lt
      have HB := Lib.hid hb
      have HBK := Lib.hid hbk
      clear hb hbk
      go_wp2_with fail
      refine (sideAt_any A n c k l _ (H.out _ HB.out) HIN.out hlt).mono ?_
      rintro e wd ⟨hbd, rfl⟩
      have hkd := HBK.out.below hbd ho
      rw [show (n - k) * 6 = (n - (k + 1)) * 6 + 6 from by omega, zs_six] at hkd
      have hkl : (scells (sidesTo l k)).length = k * 6 := by rw [scells_length, sidesTo_length]
      obtain ⟨⟨e0, e1, e2, e3, e4, e5⟩, f0, f1, f2, f3, f4, f5⟩ := hkd.cells_six hkl
      have HKD := Lib.hid (hkd.set_six hkl (.int .i64 (sideK l k).x1) (.int .i64 (sideK l k).y1) (.int .i64 (sideK l k).x2) (.int .i64 (sideK l k).y2) (.int .i64 (sideK l k).len) (.int .i64 (sideK l k).dir))
      have HBD := Lib.hid hbd
      clear hkd hkl hbd
      unfold Side.vals
      generalize hs : sideOf (pt l k) (pt l (nx l k)) = s
      have HS : Hid (s = sideK l k) := Lib.hid hs.symm
      clear hs
      go_wp2
      go_roundw
      case rel =>
        have hbw := HB.out
        have hbd := HBD.out
        have hk6 := HKD.out
        rw [← HS.out] at hk6
        refine ⟨k + 1, by omega, by go_num, ?_, (by repeat (first | with_reducible exact Below.refl _ _ | with_reducible assumption | with_reducible refine Below.drew ?_ | with_reducible refine Below.drewN ?_ _ | with_reducible refine Below.alloc2 ?_ _ | with_reducible refine Below.alloc ?_ (by first | omega | (simp <;> omega)) _ | with_reducible refine Below.setCell ?_ (by first | omega | (simp <;> omega)) _ | with_reducible refine Below.step2 (by with_reducible assumption) ?_ | with_reducible refine Below.step (by with_reducible assumption) ?_ (by first | omega | (simp <;> omega))))⟩
        rw [sidesTo_succ, scells_append, ← HS.out]
        simpa [scells, Side.cells] using hk6
      case measure => simp [intOf]; omega
    · have e : k = n := by omega
      subst e
      have HB := Lib.hid hb
      have HBK := Lib.hid hbk
      clear hb hbk
      go_wp2
      go_ret
      refine ⟨HB.out, _, rfl, Walls.of_bk (t := 59) ?_ HBK.out.lt (by unfold sides; rw [sidesTo_length, HLEN.out]) (Nat.le_refl _) (by omega)⟩
      have := HBK.out
      unfold sides
      rw [HLEN.out]
      simpa [zs] using this

end Go.Proofs.Ytbfbjpnmgcpjlaa
