/- Rows of numbers that a call owns; copies of numbers; how a system lies in memory. -/
import Derived.Test.YtkcbfkflkepfeaaLow
import Derived.Maps.AppendAt
import Derived.Laws.AppendOwnNone
import Derived.Deep.AppendLies
import Derived.Laws.OwnMore
import Derived.OwnWalk
namespace Go.Proofs.Ytkcbfkflkepfeaa
open Go.RowKit

/-- A slice value that reads as numbers; nil is empty. -/
structure Ints (w : World) (B : Nat) (A : Option Addr) (n c : Nat) (l : List Int) : Prop where
  nums : Nums w B A n c l
  nil : A = none → n = 0 ∧ c = 0
theorem Ints.below {w w' : World} {B B' n c : Nat} {A : Option Addr} {l : List Int} (h : Ints w B A n c l) {D : Nat} (hb : Below D w w') (hD : B ≤ D) (hB : B ≤ B') : Ints w' B' A n c l := ⟨h.nums.below hb hD hB, h.nil⟩

section
variable {w w1 w2 : World} {base e size n : Nat} {v : Value} {xs : List Value}
theorem own_step (h : w1.ownsRow base e size v n xs) (hb : Below w1.heap.size w1 w2) : w2.ownsRow base e size v n xs :=
  h.kept (row := none) ⟨hb.os, hb.tape, hb.output, hb.size, fun i hi _ => hb.block i hi⟩ (by
    rcases h.2 with ⟨rfl, -⟩ | ⟨g, cap, cur, rfl, -⟩
    · exact .inl rfl
    · exact .inr (by simp [Value.ownBlock]))
/-- A row that the call owns, read as cells. -/
theorem Sl.of_own (h : w.ownsRow base e size v n xs) : ∃ A c, v = .slice A n c ∧ Sl w w.heap.size size A n c xs ∧ (A = none → n = 0 ∧ c = 0) := by
  rcases h.2 with ⟨rfl, rfl⟩ | ⟨g, cap, cur, rfl, hbg, hh, hnc, hm, hs, hx⟩
  · have : xs = [] := List.eq_nil_of_length_eq_zero (by have := h.1; omega)
    subst this
    exact ⟨none, 0, rfl, Sl.nil_ _ _ _, fun _ => ⟨rfl, rfl⟩⟩
  · refine ⟨_, cap, rfl, ?_, fun h => by cases h⟩
    have hb : Bk w g e cur := hh
    rw [← hx]
    exact hb.sl hb.lt hnc hm (by rw [hs]; exact Nat.mul_le_mul_right _ hnc)
theorem Ints.of_own {l : List Int} (h : w.ownsRow base e 1 v n (i64s l)) : ∃ A c, v = .slice A n c ∧ Ints w w.heap.size A n c l := by
  obtain ⟨A, c, e, h1, h2⟩ := Sl.of_own h
  exact ⟨A, c, e, ⟨⟨h1⟩, h2⟩⟩
end
theorem i64s_one (l : List Int) : ∀ u ∈ i64s l, u.oneCell' = true := by
  intro u hu
  obtain ⟨x, _, rfl⟩ := List.mem_map.1 hu
  rfl
theorem add_plain (b o j : Nat) : (⟨b, o, none⟩ : Addr).add j = ⟨b, o + j, none⟩ := by
  unfold Addr.add
  split
  · simp [*]
  · rfl
theorem info_int : (Try.prog.info? 3).map (fun i => (i.zero, i.size, i.bytes)) = some (some (.int .i64 0), 1, 8) := by kernel_rfl
theorem i64s_append (l m : List Int) : i64s (l ++ m) = i64s l ++ i64s m := by simp [i64s]

/-- The cells of a slice, as an append wants them. -/
theorem Ints.cells_at {w : World} {B n c : Nat} {a : Addr} {l : List Int} (h : Ints w B (some a) n c l) : ∀ j u, (i64s l)[j]? = some u → w.cell? (a.add j) = some u := by
  intro j u hu
  have hp : 0 < n := by
    rcases Nat.eq_zero_or_pos n with h0 | h0
    · have := h.nums.len
      have : l = [] := List.eq_nil_of_length_eq_zero (by omega)
      subst this
      simp [i64s] at hu
    · exact h0
  obtain ⟨b, o, e, hb, hc⟩ := h.nums.sl.cells hp
  obtain rfl : a = ⟨b, o, none⟩ := Option.some.inj e
  have := hc j u hu
  rwa [add_plain]

set_option maxHeartbeats 1000000 in
theorem copyInts_any (A : Option Addr) (n c : Nat) (l : List Int) (w : World) (h : Ints w w.heap.size A n c l) (hn : n ≤ 1000000) :
    Calls Try.prog 38 #[.slice A n c] w fun e w' => Below w.heap.size w w' ∧ ∃ v, e = .returned v ∧ w'.ownsRow w.heap.size 3 1 v n (i64s l) := by
  have hcap := h.nums.cap
  have hmax := h.nums.max
  have hlen := h.nums.len
  obtain ⟨i0, hi0, hz0, hz1, hz2⟩ := info_parts info_int
  have HI0 := Lib.hid hi0
  have HZ0 := Lib.hid hz0
  have HZ1 := Lib.hid hz1
  have HZ2 := Lib.hid hz2
  have HL := Lib.hid hlen
  have HOW := Lib.hid (World.ownsRow_lit (base := w.heap.size) (e := 3) (size := 1) w #[] 0 (Nat.le_refl _) (by unfold maxLen; omega) (by simp))
  clear hi0 hz0 hz1 hz2
  match A with
  | none =>
    obtain ⟨rfl, rfl⟩ := h.nil rfl
    have hl : l = [] := List.eq_nil_of_length_eq_zero hlen
    subst hl
    clear h hlen hcap hmax
    go_enter Try.func38, Try.ntmps38
    go_wp2_with (at_builtin; refine wpList_append_own_none rfl _ _ _ rfl w.heap.size 3 i0 1 Try.underlying22 HI0.out _ 0 _ rfl HOW.out rfl ?_)
    go_ret
    exact ⟨(by repeat (first | with_reducible exact Below.refl _ _ | with_reducible assumption | with_reducible refine Below.drew ?_ | with_reducible refine Below.drewN ?_ _ | with_reducible refine Below.alloc2 ?_ _ | with_reducible refine Below.alloc ?_ (by first | omega | (simp <;> omega)) _ | with_reducible refine Below.setCell ?_ (by first | omega | (simp <;> omega)) _ | with_reducible refine Below.step2 (by with_reducible assumption) ?_ | with_reducible refine Below.step (by with_reducible assumption) ?_ (by first | omega | (simp <;> omega)))), _, rfl, HOW.out⟩
  | some a =>
    have hcells := h.cells_at
    have hblk : ∀ j, j < (i64s l).length → (a.add j).block < w.heap.size := by
      intro j hj
      exact World.block_lt_of_cell? w _ (hcells j _ (List.getElem?_eq_getElem hj))
    have HC := Lib.hid (fun (o : Obj) => (fun j u hu => (World.cell?_alloc_lt w o (a.add j) (hblk j (List.getElem?_eq_some_iff.1 hu).1)).trans (hcells j u hu) : ∀ j u, (i64s l)[j]? = some u → (w.alloc o).cell? (a.add j) = some u))
    clear hcells hblk h hlen
    go_enter Try.func38, Try.ntmps38
    go_wp2_with (at_builtin; refine wpList_append_own_at _ rfl _ _ _ rfl w.heap.size 3 i0 _ 1 8 Try.underlying22 HI0.out HZ0.out HZ1.out HZ2.out rfl (by omega) _ 0 _ rfl HOW.out a n c (i64s l) rfl (by rw [i64s_length, HL.out]; omega) (HC.out _) (i64s_one l) (by unfold maxLen; omega) (by omega) (by simp) ?_; intro v1 w1 hown1 hg1 _ _)
    have HS := Lib.hid hown1
    have HG := Lib.hid hg1
    clear hg1 hown1
    go_wp2
    go_ret
    refine ⟨((Below.refl _ _).alloc (Nat.le_refl _) _).grown HG.out (by simp) (fun g hg => by have hg' : some w.heap.size = some g := hg; injection hg' with hg'; omega), _, rfl, ?_⟩
    simpa using HS.out

/-- How a system lies in memory. -/
structure SysAt (w : World) (B : Nat) (A : Option Addr) (n c : Nat) (A2 : Option Addr) (n2 c2 : Nat) (s : Sys) : Prop where
  a : Ints w B A n c s.bays
  b : Ints w B A2 n2 c2 s.boards
theorem SysAt.below {w w' : World} {B B' n c n2 c2 : Nat} {A A2 : Option Addr} {s : Sys} (h : SysAt w B A n c A2 n2 c2 s) {D : Nat} (hb : Below D w w') (hD : B ≤ D) (hB : B ≤ B') : SysAt w' B' A n c A2 n2 c2 s := ⟨h.a.below hb hD hB, h.b.below hb hD hB⟩
theorem Bk.five {w : World} {g t : Nat} {a b c d e : Value} (h : Bk w g t #[a, b, c, d, e]) :
    (w.cell? ⟨g, 0, none⟩ = some a ∧ w.cell? ⟨g, 1, none⟩ = some b ∧ w.cell? ⟨g, 2, none⟩ = some c ∧ w.cell? ⟨g, 3, none⟩ = some d ∧ w.cell? ⟨g, 4, none⟩ = some e) ∧
    w.frozen? ⟨g, 0, none⟩ = false ∧ w.frozen? ⟨g, 1, none⟩ = false ∧ w.frozen? ⟨g, 2, none⟩ = false ∧ w.frozen? ⟨g, 3, none⟩ = false ∧ w.frozen? ⟨g, 4, none⟩ = false :=
  ⟨⟨by simpa using h.cell 0, by simpa using h.cell 1, by simpa using h.cell 2, by simpa using h.cell 3, by simpa using h.cell 4⟩, h.frozen 0, h.frozen 1, h.frozen 2, h.frozen 3, h.frozen 4⟩

theorem commonDivisor_int (a b : Int) (w : World) (ha : 0 ≤ a ∧ a ≤ 1000000) (hb : 0 ≤ b ∧ b ≤ 1000000) :
    Calls Try.prog 62 #[.int .i64 a, .int .i64 b] w fun e w' => Below w.heap.size w w' ∧ e = .returned (.int .i64 (gI a b)) := by
  have := commonDivisor_any a.toNat b.toNat w (by omega) (by omega)
  rwa [Int.toNat_of_nonneg ha.1, Int.toNat_of_nonneg hb.1] at this
theorem refGcd_int (a b : Int) (w : World) (ha : 0 ≤ a ∧ a ≤ 1000000) (hb : 0 ≤ b ∧ b ≤ 1000000) :
    Calls Try.prog 60 #[.int .i64 a, .int .i64 b] w fun e w' => Below w.heap.size w w' ∧ e = .returned (.int .i64 (gI a b)) := by
  have := refGcd_any a.toNat b.toNat w (by omega) (by omega)
  rwa [Int.toNat_of_nonneg ha.1, Int.toNat_of_nonneg hb.1] at this

end Go.Proofs.Ytkcbfkflkepfeaa
