/- The walks of shifted and shiftBack: limbs times, and divided by, a power of two. -/
import Derived.Test.YtfnibkodccfocaaGreatDiv32
import Derived.Laws.CopyRow
import Derived.Laws.CopyOwn
import Derived.RegionTactic
import Derived.Deep.QuietTactic
import Derived.BigQuiet
namespace Go.Proofs.YtfnibkodccfocaaGreat
open Go.RowKit

/-- A row that the call owns, made as long as asked. -/
def SizedR (base n : Nat) (v : Value) (w : World) (e : Ending) (w' : World) : Prop :=
  ∃ g c O, e = .returned (.slice (some ⟨g, 0, none⟩) n c) ∧ Buf w' g 75 O ∧ O.length = c ∧ n ≤ c ∧ c ≤ 9223372036854775807 ∧ Below w.heap.size w w' ∧ base ≤ g ∧ ((v.ownBlock = some g ∧ w' = w) ∨ (g = w.heap.size ∧ w'.heap.size = w.heap.size + 1))

theorem sized_own (base n : Nat) (v : Value) (l : List Nat) (w : World) (h : OwnL w base 75 v l) (hb : base ≤ w.heap.size) (h0 : 0 < n) (hn : n ≤ 1099511627776) :
    Calls Tryz.prog 119 #[v, .int .i64 (n : Int)] w (SizedR base n v w) := by
  rcases h with ⟨rfl, rfl⟩ | ⟨g, n0, c, O, rfl, hbg, hbuf, hO, hn0, hc, rfl⟩
  · refine (sized_new none 0 0 n w h0 hn).mono ?_
    rintro e w' ⟨rfl, rfl⟩
    exact ⟨w.heap.size, n, List.replicate n 0, rfl, ⟨Bk.alloc_ _ _ _, Bd.replicate _⟩, List.length_replicate, Nat.le_refl _, by omega, (Below.refl _ _).alloc (Nat.le_refl _) _, hb, .inr ⟨rfl, by simp⟩⟩
  · rcases Nat.lt_or_ge c n with hlt | hge
    · refine (sized_new _ n0 c n w hlt hn).mono ?_
      rintro e w' ⟨rfl, rfl⟩
      exact ⟨w.heap.size, n, List.replicate n 0, rfl, ⟨Bk.alloc_ _ _ _, Bd.replicate _⟩, List.length_replicate, Nat.le_refl _, by omega, (Below.refl _ _).alloc (Nat.le_refl _) _, hb, .inr ⟨rfl, by simp⟩⟩
    · refine (sized_same _ n0 c n w hge).mono ?_
      rintro e w' ⟨rfl, rfl⟩
      exact ⟨g, c, O, rfl, hbuf, hO, hge, hc, Below.refl _ _, hbg, .inl ⟨rfl, rfl⟩⟩

theorem Buf.setRow {w : World} {g : Nat} {t : TypeId} {O : List Nat} (h : Buf w g t O) {N : List Nat} (hN : Bd N) : Buf (w.setRow g (u32s N).toArray) g t N := ⟨setRow_heap w g _ _ t _ h.bk, hN⟩
theorem Only.setRow {g : Nat} {a b : World} (h : Only g a b) (cs : Array Value) : Only g a (b.setRow g cs) :=
  h.trans ⟨rfl, rfl, rfl, by simp [World.setRow], fun k hk => setRow_other b g k cs hk⟩

theorem copy_u32 {P : Program} {T e ty : TypeId} (ht : P.underlying T = some (.slice e)) (hs : (P.info? e).map (·.size) = some 1) {w : World} {g t : Nat} {O a : List Nat} (hO : Buf w g t O) {B c2 n c : Nat} {A : Option Addr} (ha : Lim w B A a.length c2 a) (h0 : 0 < a.length) (hn : a.length ≤ n) (hnO : n ≤ O.length) :
    (Builtin.copy_ #[T, T] ty #[.slice (some ⟨g, 0, none⟩) n c, .slice A a.length c2]).run P w = .ok (goInt a.length) (w.setRow g (u32s (a ++ O.drop a.length)).toArray) := by
  obtain ⟨b, o, rfl, _, hc⟩ := ha.addr h0
  have hr := run_copy_row (P := P) w T T ty e g 0 n c ⟨b, o, none⟩ a.length c2 _ t (u32s a) ht hs hO.bk (by rw [u32s_length]; exact (Nat.min_eq_left hn).symm)
    (by intro j u hu; rw [Addr.add_lit]; rw [u32s_get?] at hu; cases hj : a[j]? with
      | none => rw [hj] at hu; cases hu
      | some x => rw [hj] at hu; cases hu; exact hc j x hj)
    (by simp [u32s]; omega) (u32s_one a)
  rw [hr, u32s_length]
  congr 3
  simp [u32s, List.map_drop]

theorem clear_none {P : Program} {T e ty : TypeId} (ht : P.underlying T = some (.slice e)) (A : Option Addr) (c : Nat) (w : World) : (Builtin.clear_ #[T] ty #[.slice A 0 c]).run P w = .ok (.tuple #[]) w := by
  cases A <;> simp [Builtin.clear_, run_underlying ht]
theorem clear_one {P : Program} {T e ty : TypeId} {i : TypeInfo} (ht : P.underlying T = some (.slice e)) (hi : P.info? e = some i) (hz : i.zero = some (.int .u32 0)) {w : World} {g t : Nat} {O : List Nat} (hO : Buf w g t O) {m c : Nat} (hm : m < O.length) :
    (Builtin.clear_ #[T] ty #[.slice (some ⟨g, m, none⟩) 1 c]).run P w = .ok (.tuple #[]) (w.setRow g (u32s (O.set m 0)).toArray) := by
  have hst := run_storeCells_at P g m t [.int .u32 0] 0 _ w hO.bk (by simp [u32s]; omega) (by simp [Value.oneCell'])
  have e1 : (Builtin.zeroCells (Value.int IntKind.u32 0).cells 1).toList = [.int .u32 0] := by simp [zero_cells, u32s]
  simp [Builtin.clear_, run_underlying ht, zeroValue, typeInfo, hi, hz, e1, hst]
  congr 2
  have : O.set m 0 = O.take m ++ 0 :: O.drop (m + 1) := by rw [List.set_eq_take_append_cons_drop, if_pos hm]
  rw [this]
  simp [u32s, List.map_take, List.map_drop]

end Go.Proofs.YtfnibkodccfocaaGreat
