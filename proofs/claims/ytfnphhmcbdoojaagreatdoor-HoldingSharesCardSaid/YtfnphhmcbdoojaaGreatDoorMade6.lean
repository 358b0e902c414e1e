/- Slices of zeros that are made. No function of the program is named here. -/
import Derived.Test.YtfnphhmcbdoojaaGreatDoorCells
import Derived.Laws.MakeOwn
import Derived.Laws.Entries
import Derived.Laws.Rows
namespace Go.Proofs.YtfnphhmcbdoojaaGreatDoor
open Go.RowKit

/-- Zeros. -/
def zs (m : Nat) : List Value := List.replicate m (.int .i64 0)
theorem zs_length (m : Nat) : (zs m).length = m := by simp [zs]
theorem made_zs (z : Value) (q m : Nat) (hz : z.cells = (zs q).toArray) (hq : 0 < q) : madeCells z.cells m = (zs m).toArray := by
  rw [hz]
  apply Array.ext
  · simp [size_madeCells, zs]
  · intro j h1 h2
    simp [madeCells, zs, Nat.mod_lt _ hq]

/-- make of a slice of numbers. -/
theorem make_any {P : Program} (t e : TypeId) (i : TypeInfo) (z : Value) (ht : P.underlying t = some (.slice e)) (hi : P.info? e = some i) (hz : i.zero = some z) {q : Nat} (hs : i.size = q) (hc : z.cells = (zs q).toArray) (hq : 0 < q)
    (n : Nat) (hbytes : i.bytes * n ≤ 281474976710656) (h63 : n ≤ 9223372036854775807) (w : World) :
    (Instr.makeSlice t (.int .i64 (n : Int)) (.int .i64 (n : Int))).run P w = .ok (.slice (some ⟨w.heap.size, 0, none⟩) n n) (w.alloc (.cells (zs (n * q)).toArray e)) := by
  have hb : (i.bytes : Int) * (n : Int) ≤ 281474976710656 := by
    have h : ((i.bytes * n : Nat) : Int) ≤ 281474976710656 := by omega
    rwa [Int.natCast_mul] at h
  have hr := run_make (P := P) w t e i z ht hi hz .i64 .i64 n n (by omega) (by omega) hb (by omega)
  simp only [Int.toNat_natCast, hs] at hr
  rw [hr, made_zs z q _ hc hq]

end Go.Proofs.YtfnphhmcbdoojaaGreatDoor
