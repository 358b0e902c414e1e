/- Walks: tableOf. -/
import Derived.Test.YtkcbfkflkepfeaaCodeWith
import Derived.Deep.RegionWith
import Derived.Deep.CutBlock
import Derived.Deep.DeepCutAuto
import Derived.Deep.LoopGhost
namespace Go.Proofs.Ytkcbfkflkepfeaa
open Go.RowKit

theorem Bk.three {w : World} {g t : Nat} {a b c : Value} (h : Bk w g t #[a, b, c]) :
    (w.cell? ⟨g, 0, none⟩ = some a ∧ w.cell? ⟨g, 1, none⟩ = some b ∧ w.cell? ⟨g, 2, none⟩ = some c) ∧ w.frozen? ⟨g, 0, none⟩ = false ∧ w.frozen? ⟨g, 1, none⟩ = false ∧ w.frozen? ⟨g, 2, none⟩ = false :=
  ⟨⟨by simpa using h.cell 0, by simpa using h.cell 1, by simpa using h.cell 2⟩, h.frozen 0, h.frozen 1, h.frozen 2⟩
theorem Bk.set3 {w : World} {g t : Nat} {a b c : Value} (h : Bk w g t #[a, b, c]) (x y z : Value) : Bk (((w.setCell ⟨g, 0, none⟩ x).setCell ⟨g, 1, none⟩ y).setCell ⟨g, 2, none⟩ z) g t #[x, y, z] := by
  have := ((h.set_ 0 x).set_ 1 y).set_ 2 z
  simpa using this
theorem Bk.set3z {w : World} {g t : Nat} (h : Bk w g t #[.int .i64 0, .slice none 0 0, .slice none 0 0]) (x y z : Value) : Bk (((w.setCell ⟨g, 0, none⟩ x).setCell ⟨g, 1, none⟩ y).setCell ⟨g, 2, none⟩ z) g t #[x, y, z] := h.set3 x y z
theorem PartsAt.keep {w w' : World} {B pb po n c : Nat} {l : List Part} (h : PartsAt w B (some ⟨pb, po, none⟩) n c l) (hk : ∀ o, w'.cell? ⟨pb, o, none⟩ = w.cell? ⟨pb, o, none⟩) : PartsAt w' B (some ⟨pb, po, none⟩) n c l :=
  ⟨⟨h.sl.len, h.sl.cap, h.sl.max, fun hn => by
    obtain ⟨b, o, e, hb, hc⟩ := h.sl.cells hn
    obtain ⟨rfl, rfl⟩ : pb = b ∧ po = o := by simpa using e
    exact ⟨pb, po, rfl, hb, fun k u hu => (hk _).trans (hc k u hu)⟩⟩, fun e => by cases e⟩

/-- The cells of a block are as before. -/
def Same (pb : Nat) (w w' : World) : Prop := ∀ o, w'.cell? ⟨pb, o, none⟩ = w.cell? ⟨pb, o, none⟩
section
variable {pb : Nat} {w w' w2 : World}
theorem Same.refl (pb : Nat) (w : World) : Same pb w w := fun _ => rfl
theorem Same.drew (h : Same pb w w') : Same pb w w'.drew := h
theorem Same.drewN (h : Same pb w w') (n : Nat) : Same pb w (w'.drewN n) := h
theorem Same.alloc (h : Same pb w w') (o : Obj) (hp : pb < w'.heap.size) : Same pb w (w'.alloc o) := fun x => (World.cell?_alloc_lt w' o _ hp).trans (h x)
theorem Same.set (h : Same pb w w') {p : Addr} (u : Value) (hp : p.block ≠ pb) : Same pb w (w'.setCell p u) := fun x => (World.cell?_setCell_other w' p _ u (fun e => hp (congrArg Addr.block e))).trans (h x)
theorem Same.step {D : Nat} (h : Same pb w w') (hb : Below D w' w2) (hp : pb < D) : Same pb w w2 := fun x => (hb.cell (p := ⟨pb, x, none⟩) hp).trans (h x)
end
theorem PartsAt.own {w : World} {base e n : Nat} {v : Value} {l : List Part} (h : w.ownsRow base e 4 v n (ptcells l)) (hn : 1 ≤ n) : ∃ g cap, v = .slice (some ⟨g, 0, none⟩) n cap ∧ base ≤ g ∧ g < w.heap.size ∧ PartsAt w (g + 1) (some ⟨g, 0, none⟩) n cap l := by
  rcases h.2 with ⟨-, h0⟩ | ⟨g, cap, cur, rfl, hbg, hh, hnc, hm, hs, hx⟩
  · omega
  · have hb : Bk w g e cur := hh
    refine ⟨g, cap, rfl, hbg, hb.lt, ?_, fun h => by cases h⟩
    rw [← hx]
    exact hb.sl (by omega) hnc hm (by rw [hs]; exact Nat.mul_le_mul_right _ hnc)

theorem Same.grown {pb : Nat} {w w' w2 : World} {row : Option Nat} (h : Same pb w w') (hg : w'.grownBy w2 row) (hp : pb < w'.heap.size) (hne : some pb ≠ row) : Same pb w w2 := fun x => (hg.cell_far ⟨pb, x, none⟩ hp hne).trans (h x)
theorem own_set {w : World} {base e size n g o : Nat} {v : Value} {xs : List Value} (h : w.ownsRow base e size v n xs) (u : Value) (hg : some g ≠ v.ownBlock) : (w.setCell ⟨g, o, none⟩ u).ownsRow base e size v n xs :=
  h.kept (row := some g) ⟨rfl, rfl, rfl, by simp [World.setCell], fun i _ hne => Below.heap_setCell _ _ _ _ (fun e => hne (by rw [e]))⟩ (.inr (fun e => hg e.symm))
theorem best_take {ps : List Part} {T : List Int} {K j : Nat} {q : Part} (h : ps[j]? = some q) : (ps.take (j + 1)).foldl (fun b p => pick b (codeAt T p K)) (-1) = pick ((ps.take j).foldl (fun b p => pick b (codeAt T p K)) (-1)) (codeAt T q K) := by
  obtain ⟨hk, rfl⟩ := List.getElem?_eq_some_iff.1 h
  rw [List.take_succ_eq_append_getElem hk, List.foldl_append]
  rfl
theorem best_take_bd {ps : List Part} (hf : ∀ p ∈ ps, p.Fine) (K : Nat) (hK : K ≤ 4001) (j : Nat) : -1 ≤ (ps.take j).foldl (fun b p => pick b (codeAt (tab ps (K - 1)) p K)) (-1) ∧ (ps.take j).foldl (fun b p => pick b (codeAt (tab ps (K - 1)) p K)) (-1) ≤ 100000000 := by
  have := fold_pick_bd (tab_codes hf (K - 1)) (by omega) K (ps.take j) (-1) (fun q hq => hf q (List.mem_of_mem_take hq)) (by omega)
  omega
theorem tab_pred (ps : List Part) {K : Nat} (h : 1 ≤ K) : tab ps K = tab ps (K - 1) ++ [bestOf ps (tab ps (K - 1)) K] := by
  obtain ⟨k, rfl⟩ : ∃ k, K = k + 1 := ⟨K - 1, by omega⟩
  rfl
theorem codes_big {ps : List Part} (hf : ∀ p ∈ ps, p.Fine) {K : Nat} (hK : K ≤ 4001) : Codes (tab ps (K - 1)) 1000000000 := by
  intro x hx
  have := tab_codes hf (K - 1) x hx
  omega

/-- An address that lies in a new block. -/
def Fresh (D : Nat) (A : Option Addr) : Prop := ∀ a, A = some a → D ≤ a.block
theorem Sl.fresh {w w' : World} {B B' D size n c : Nat} {A : Option Addr} {xs : List Value} (h : Sl w B size A n c xs) (hf : Fresh D A) (hk : ∀ b o, D ≤ b → w'.cell? ⟨b, o, none⟩ = w.cell? ⟨b, o, none⟩) (hB : B ≤ B') : Sl w' B' size A n c xs :=
  ⟨h.len, h.cap, h.max, fun hn => by
    obtain ⟨b, o, e, hb, hc⟩ := h.cells hn
    exact ⟨b, o, e, by omega, fun k u hu => (hk b _ (hf _ e)).trans (hc k u hu)⟩⟩

/-- The table as it is laid out. -/
def Start (w : World) (s : Sys) (m : Nat) (P : Value) (wx : World) : Prop :=
  ∃ g ga pb po pc, P = .pointer (some ⟨g, 0, none⟩) ∧ Bk wx g 68 #[.int .i64 s.unit, .slice (some ⟨pb, po, none⟩) m pc, .slice (some ⟨ga, 0, none⟩) 1 1] ∧ Bk wx ga 3 #[.int .i64 0] ∧
    PartsAt wx (pb + 1) (some ⟨pb, po, none⟩) m pc s.parts ∧ Bk wx (w.heap.size + 1) 68 #[.int .i64 0, .slice none 0 0, .slice none 0 0] ∧
    (g ≠ ga ∧ g ≠ pb ∧ ga ≠ pb ∧ w.heap.size + 1 < g ∧ w.heap.size + 1 < ga ∧ w.heap.size + 1 < pb) ∧ pb < wx.heap.size ∧ Below w.heap.size w wx

set_option maxRecDepth 100000 in
set_option maxHeartbeats 8000000 in
theorem tableOf_any (A A2 : Option Addr) (n c n2 c2 : Nat) (s : Sys) (w : World) (h : SysAt w w.heap.size A n c A2 n2 c2 s) (hs : s.Ok) (most : Int) (h0 : 0 ≤ most) (h1 : most ≤ 4000 * s.unit) :
    Calls Try.prog 54 #[.agg #[.slice A n c, .slice A2 n2 c2, .int .i64 s.width, .int .i64 s.gap, .int .i64 s.lift], .int .i64 most] w fun e w' => Below w.heap.size w w' ∧
      ∃ PA pn pc TA tc, e = .returned (.agg #[.int .i64 s.unit, .slice PA pn pc, .slice TA ((most.tdiv s.unit).toNat + 1) tc]) ∧ PartsAt w' w'.heap.size PA pn pc s.parts ∧ Ints w' w'.heap.size TA ((most.tdiv s.unit).toNat + 1) tc (tab s.parts (most.tdiv s.unit).toNat) ∧ Fresh w.heap.size PA ∧ Fresh w.heap.size TA := by
  have hcapA := h.a.nums.cap; have hmaxA := h.a.nums.max; have hcapB := h.b.nums.cap; have hmaxB := h.b.nums.max; have HLA := Lib.hid h.a.nums.len; have HLB := Lib.hid h.b.nums.len; have H : Hid (∀ w', Below w.heap.size w w' → SysAt w' w.heap.size A n c A2 n2 c2 s) := fun w' hb => h.below hb (Nat.le_refl _) (Nat.le_refl _); have HS : Hid (∀ w', Below w.heap.size w w' → SysAt w' w'.heap.size A n c A2 n2 c2 s) := fun w' hb => h.below hb (Nat.le_refl _) hb.size; clear h
  have HOK := Lib.hid hs
  have hpl := hs.parts_len
  have hn12 : n + n2 = s.parts.length := by unfold Sys.parts; rw [List.length_append, List.length_map, List.length_map, HLA.out, HLB.out]
  obtain ⟨m, hm⟩ : ∃ m : Nat, m = n + n2 := ⟨_, rfl⟩
  have HM := Lib.hid hm
  have hm1 : 1 ≤ m := by omega
  have hm2 : m ≤ 16 := by omega
  obtain ⟨i0, hi0, hz0, hz1, hz2⟩ := info_parts info_int
  have HI0 := Lib.hid hi0
  have HZ0 := Lib.hid hz0
  have HZ1 := Lib.hid hz1
  have HZ2 := Lib.hid hz2
  clear hs hn12 hm hpl hi0 hz0 hz1 hz2
  have hu := HOK.out.unit_bd
  obtain ⟨hu1, hu2⟩ := hu
  have hu0 : ¬ s.unit = 0 := by omega
  have hN0 : 0 ≤ most.tdiv s.unit := Int.tdiv_nonneg h0 (by omega)
  have hN1 : most.tdiv s.unit ≤ 4000 := by
    rw [Int.tdiv_eq_ediv_of_nonneg h0]
    exact Int.ediv_le_of_le_mul (by omega) (by omega)
  obtain ⟨N, hN⟩ : ∃ N : Nat, most.tdiv s.unit = (N : Int) := ⟨(most.tdiv s.unit).toNat, by omega⟩
  have hN4 : N ≤ 4000 := by omega
  have hNt : (most.tdiv s.unit).toNat = N := by omega
  have hquo : IntKind.i64.wrap (most.tdiv s.unit) = (N : Int) := by rw [hN]; exact IntWalk.i64_in _ (by omega)
  rw [hNt]
  clear hN0 hN1 hNt hN h0 h1
  go_enter Try.func54, Try.ntmps54
  go_upto_region 2 with (fail)
  go_cut [5] (fun P wx => Start w s m P wx)
  case first =>
    go_wp2
    go_region_held3 (fun w' => w'.cell? ⟨w.heap.size, 0, none⟩ = some (.slice A n c) ∧ w'.cell? ⟨w.heap.size, 1, none⟩ = some (.slice A2 n2 c2) ∧ w'.cell? ⟨w.heap.size, 2, none⟩ = some (.int .i64 s.width) ∧ w'.cell? ⟨w.heap.size, 3, none⟩ = some (.int .i64 s.gap) ∧ w'.cell? ⟨w.heap.size, 4, none⟩ = some (.int .i64 s.lift))
      (first | go_keep | exact ⟨((show Same w.heap.size w2 _ from (by repeat (first | with_reducible exact Same.refl _ _ | with_reducible assumption | with_reducible refine Same.drew ?_ | with_reducible refine Same.drewN ?_ _ | with_reducible refine Same.alloc ?_ _ (by first | omega | (simp; omega)) | with_reducible refine Same.set ?_ _ (by first | omega | (simp; omega)) | with_reducible refine Same.step ?_ (by with_reducible assumption) (by first | omega | (simp; omega))))) 0).trans b0, ((show Same w.heap.size w2 _ from (by repeat (first | with_reducible exact Same.refl _ _ | with_reducible assumption | with_reducible refine Same.drew ?_ | with_reducible refine Same.drewN ?_ _ | with_reducible refine Same.alloc ?_ _ (by first | omega | (simp; omega)) | with_reducible refine Same.set ?_ _ (by first | omega | (simp; omega)) | with_reducible refine Same.step ?_ (by with_reducible assumption) (by first | omega | (simp; omega))))) 1).trans b1, ((show Same w.heap.size w2 _ from (by repeat (first | with_reducible exact Same.refl _ _ | with_reducible assumption | with_reducible refine Same.drew ?_ | with_reducible refine Same.drewN ?_ _ | with_reducible refine Same.alloc ?_ _ (by first | omega | (simp; omega)) | with_reducible refine Same.set ?_ _ (by first | omega | (simp; omega)) | with_reducible refine Same.step ?_ (by with_reducible assumption) (by first | omega | (simp; omega))))) 2).trans b2, ((show Same w.heap.size w2 _ from (by repeat (first | with_reducible exact Same.refl _ _ | with_reducible assumption | with_reducible refine Same.drew ?_ | with_reducible refine Same.drewN ?_ _ | with_reducible refine Same.alloc ?_ _ (by first | omega | (simp; omega)) | with_reducible refine Same.set ?_ _ (by first | omega | (simp; omega)) | with_reducible refine Same.step ?_ (by with_reducible assumption) (by first | omega | (simp; omega))))) 3).trans b3, ((show Same w.heap.size w2 _ from (by repeat (first | with_reducible exact Same.refl _ _ | with_reducible assumption | with_reducible refine Same.drew ?_ | with_reducible refine Same.drewN ?_ _ | with_reducible refine Same.alloc ?_ _ (by first | omega | (simp; omega)) | with_reducible refine Same.set ?_ _ (by first | omega | (simp; omega)) | with_reducible refine Same.step ?_ (by with_reducible assumption) (by first | omega | (simp; omega))))) 4).trans b4⟩)
      (first
        | (go_at_call 49; refine (unit_any _ _ _ _ _ _ _ _ (HS.out _ (by exact (by repeat (first | with_reducible exact Below.refl _ _ | with_reducible assumption | with_reducible refine Below.drew ?_ | with_reducible refine Below.drewN ?_ _ | with_reducible refine Below.alloc2 ?_ _ | with_reducible refine Below.alloc ?_ (by first | omega | (simp <;> omega)) _ | with_reducible refine Below.setCell ?_ (by first | omega | (simp <;> omega)) _ | with_reducible refine Below.step2 (by with_reducible assumption) ?_ | with_reducible refine Below.step (by with_reducible assumption) ?_ (by first | omega | (simp <;> omega)))))) HOK.out).mono ?_; rintro e w1 ⟨hb1, rfl⟩; have HB1 : Hid (Below w.heap.size w w1) := Lib.hid (by exact (by repeat (first | with_reducible exact Below.refl _ _ | with_reducible assumption | with_reducible refine Below.drew ?_ | with_reducible refine Below.drewN ?_ _ | with_reducible refine Below.alloc2 ?_ _ | with_reducible refine Below.alloc ?_ (by first | omega | (simp <;> omega)) _ | with_reducible refine Below.setCell ?_ (by first | omega | (simp <;> omega)) _ | with_reducible refine Below.step2 (by with_reducible assumption) ?_ | with_reducible refine Below.step (by with_reducible assumption) ?_ (by first | omega | (simp <;> omega))))); have HK1 : Hid (Bk w1 w.heap.size 24 #[.slice A n c, .slice A2 n2 c2, .int .i64 s.width, .int .i64 s.gap, .int .i64 s.lift]) := Lib.hid (by exact (by repeat (first | with_reducible assumption | with_reducible exact Bk.at_ (by first | (simp; done) | omega) | with_reducible refine Bk.alloc ?_ _ | with_reducible refine Bk.drew ?_ | with_reducible refine Bk.drewN ?_ _ | with_reducible refine Bk.step (by with_reducible assumption) ?_ (by first | omega | (simp <;> omega))))); have hr1 : Bk w1 (w.heap.size + 1) 68 #[.int .i64 0, .slice none 0 0, .slice none 0 0] := (by exact (by repeat (first | with_reducible assumption | with_reducible exact Bk.at_ (by first | (simp; done) | omega) | with_reducible refine Bk.alloc ?_ _ | with_reducible refine Bk.drew ?_ | with_reducible refine Bk.drewN ?_ _ | with_reducible refine Bk.step (by with_reducible assumption) ?_ (by first | omega | (simp <;> omega))))); have hl1 := hr1.lt; obtain ⟨⟨a0, a1, a2, a3, a4⟩, -⟩ := HK1.out.five; have hz1 := hb1.size; (try simp at hz1); have HR1 := Lib.hid hr1; obtain ⟨hc1, hf1⟩ := bcell hb1; (try (rcases Nat.lt_or_ge (w.heap.size + 1 + 1) (w1.heap.size) with ox | ox; rotate_left; exfalso; omega)); (try (rcases Nat.lt_or_ge (w.heap.size + 1 + 1 + 1) (w1.heap.size) with ox' | ox'; rotate_left; exfalso; omega)); clear hr1)
        | (go_at_call 50; refine (partsOf_any _ _ _ _ _ _ _ _ (HS.out _ (by have hb1 := HB1.out; exact (by repeat (first | with_reducible exact Below.refl _ _ | with_reducible assumption | with_reducible refine Below.drew ?_ | with_reducible refine Below.drewN ?_ _ | with_reducible refine Below.alloc2 ?_ _ | with_reducible refine Below.alloc ?_ (by first | omega | (simp <;> omega)) _ | with_reducible refine Below.setCell ?_ (by first | omega | (simp <;> omega)) _ | with_reducible refine Below.step2 (by with_reducible assumption) ?_ | with_reducible refine Below.step (by with_reducible assumption) ?_ (by first | omega | (simp <;> omega)))))) HOK.out).mono ?_; rintro e w2 ⟨hb2, v0, rfl, hown2⟩; rw [← HM.out] at hown2; have hz2 := hb2.size; (try simp at hz2); obtain ⟨pb, pc, rfl, hpb1, hpb2, hpt⟩ := PartsAt.own hown2 hm1; (try simp at hpb1); have HK2 : Hid (Bk w2 w.heap.size 24 #[.slice A n c, .slice A2 n2 c2, .int .i64 s.width, .int .i64 s.gap, .int .i64 s.lift]) := Lib.hid (by have hk1 := HK1.out; exact (by repeat (first | with_reducible assumption | with_reducible exact Bk.at_ (by first | (simp; done) | omega) | with_reducible refine Bk.alloc ?_ _ | with_reducible refine Bk.drew ?_ | with_reducible refine Bk.drewN ?_ _ | with_reducible refine Bk.step (by with_reducible assumption) ?_ (by first | omega | (simp <;> omega))))); obtain ⟨⟨b0, b1, b2, b3, b4⟩, -⟩ := HK2.out.five; obtain ⟨hc2', hf2⟩ := bcell hb2; (try (rcases Nat.lt_or_ge (w.heap.size + 1 + 1) (w2.heap.size) with oz | oz; rotate_left; exfalso; omega)); (try (rcases Nat.lt_or_ge (w.heap.size + 1 + 1 + 1) (w2.heap.size) with oz' | oz'; rotate_left; exfalso; omega)); (try (rcases Nat.lt_or_ge (w1.heap.size) (w2.heap.size) with oy | oy; rotate_left; exfalso; omega)); (try (rcases Nat.lt_or_ge (w1.heap.size + 1) (w2.heap.size) with oy' | oy'; rotate_left; exfalso; omega)); clear hown2))
    all_goals
      go_wp2_with fail
      go_meet
      have hr1 := HR1.out
      exact ⟨_, _, pb, _, pc, rfl, (by repeat (first | with_reducible assumption | with_reducible refine Bk.set3z ?_ _ _ _ | with_reducible refine Bk.other ?_ (by first | omega | (simp <;> omega)) _ | with_reducible exact Bk.at_ (by first | (simp; done) | omega) | with_reducible refine Bk.alloc ?_ _ | with_reducible refine Bk.drew ?_ | with_reducible refine Bk.drewN ?_ _ | with_reducible refine Bk.step (by with_reducible assumption) ?_ (by first | omega | (simp <;> omega)))), (by repeat (first | with_reducible assumption | with_reducible refine Bk.set3z ?_ _ _ _ | with_reducible refine Bk.other ?_ (by first | omega | (simp <;> omega)) _ | with_reducible exact Bk.at_ (by first | (simp; done) | omega) | with_reducible refine Bk.alloc ?_ _ | with_reducible refine Bk.drew ?_ | with_reducible refine Bk.drewN ?_ _ | with_reducible refine Bk.step (by with_reducible assumption) ?_ (by first | omega | (simp <;> omega)))), hpt.keep (show Same pb w2 _ from (by repeat (first | with_reducible exact Same.refl _ _ | with_reducible assumption | with_reducible refine Same.drew ?_ | with_reducible refine Same.drewN ?_ _ | with_reducible refine Same.alloc ?_ _ (by first | omega | (simp; omega)) | with_reducible refine Same.set ?_ _ (by first | omega | (simp; omega)) | with_reducible refine Same.step ?_ (by with_reducible assumption) (by first | omega | (simp; omega))))), (by repeat (first | with_reducible assumption | with_reducible refine Bk.set3z ?_ _ _ _ | with_reducible refine Bk.other ?_ (by first | omega | (simp <;> omega)) _ | with_reducible exact Bk.at_ (by first | (simp; done) | omega) | with_reducible refine Bk.alloc ?_ _ | with_reducible refine Bk.drew ?_ | with_reducible refine Bk.drewN ?_ _ | with_reducible refine Bk.step (by with_reducible assumption) ?_ (by first | omega | (simp <;> omega)))), ⟨(by first | omega | (simp; done) | (simp; omega)), (by first | omega | (simp; done) | (simp; omega)), (by first | omega | (simp; done) | (simp; omega)), (by first | omega | (simp; done) | (simp; omega)), (by first | omega | (simp; done) | (simp; omega)), (by first | omega | (simp; done) | (simp; omega))⟩, (by first | omega | (simp; done) | (simp; omega)), (by have hb0 := HB1.out; exact (by repeat (first | with_reducible exact Below.refl _ _ | with_reducible assumption | with_reducible refine Below.drew ?_ | with_reducible refine Below.drewN ?_ _ | with_reducible refine Below.alloc2 ?_ _ | with_reducible refine Below.alloc ?_ (by first | omega | (simp <;> omega)) _ | with_reducible refine Below.setCell ?_ (by first | omega | (simp <;> omega)) _ | with_reducible refine Below.step2 (by with_reducible assumption) ?_ | with_reducible refine Below.step (by with_reducible assumption) ?_ (by first | omega | (simp <;> omega)))))⟩
  case rest =>
    obtain ⟨g, ga, pb, po, pc, rfl, ht, hga, hpt, hr, ⟨n1, n2', n3, n4, n5, n6⟩, hpb, hbw⟩ := hcut
    have HF := Lib.hid HOK.out.fine
    have HPL : Hid (s.parts.length = m) := Lib.hid (by unfold Sys.parts; rw [List.length_append, List.length_map, List.length_map, HLA.out, HLB.out, HM.out])
    have hown0 : wc.ownsRow (w.heap.size + 2) 3 1 (.slice (some ⟨ga, 0, none⟩) 1 1) 1 (i64s (tab s.parts (1 - 1))) := ⟨by simp [tab, i64s], .inr ⟨ga, 1, #[.int .i64 0], rfl, by omega, hga, Nat.le_refl _, by unfold maxLen; omega, rfl, by simp [tab, i64s]⟩⟩
    have HW := Lib.hid hbw
    clear hga hbw
    go_wp2_with fail
    go_loopw [6] (fun i wr => ∃ (K : Nat) (v : Value), (1 ≤ K ∧ K ≤ N + 1) ∧ i = .int .i64 K ∧ Bk wr g 68 #[.int .i64 s.unit, .slice (some ⟨pb, po, none⟩) m pc, v] ∧ wr.ownsRow (w.heap.size + 2) 3 1 v K (i64s (tab s.parts (K - 1))) ∧
      (some g ≠ v.ownBlock ∧ some pb ≠ v.ownBlock) ∧ PartsAt wr (pb + 1) (some ⟨pb, po, none⟩) m pc s.parts ∧ Bk wr (w.heap.size + 1) 68 #[.int .i64 0, .slice none 0 0, .slice none 0 0] ∧ pb < wr.heap.size ∧ Below w.heap.size w wr) (fun i _ => N + 1 - (intOf i).toNat)
    case atStart => exact ⟨1, _, ⟨Nat.le_refl _, by omega⟩, rfl, ht, hown0, ⟨by simp [Value.ownBlock]; omega, by simp [Value.ownBlock]; omega⟩, hpt, hr, hpb, HW.out⟩
    case round =>
      obtain ⟨K, v, ⟨hK1, hK2⟩, rfl, hT, hown, ⟨hne1, hne2⟩, hpt, hr, hpb, hb⟩ := hrel
      obtain ⟨wo, rfl⟩ : ∃ x, x = wr := ⟨_, rfl⟩
      have HNE1 := Lib.hid hne1
      have HNE2 := Lib.hid hne2
      have HT := Lib.hid hT
      have HOWN := Lib.hid hown
      have HPT := Lib.hid hpt
      have HR := Lib.hid hr
      have HB := Lib.hid hb
      obtain ⟨TA, tc, rfl, hI⟩ := Ints.of_own hown
      have hIc := hI.nums.cap
      have hIm := hI.nums.max
      have HI : Hid (∀ w', Below wo.heap.size wo w' → Ints w' w'.heap.size TA K tc (tab s.parts (K - 1))) := fun w' hb => hI.below hb (Nat.le_refl _) hb.size
      obtain ⟨⟨c0, c1, c2'⟩, f0, f1, f2⟩ := hT.three
      have og := hT.lt
      have ow := hb.size
      have hpc := hpt.cap
      have hpm := hpt.max
      clear hT hown hpt hb hI hne1 hne2 ht hown0
      by_cases hlt : K ≤ N
      · have HCB := Lib.hid (codes_big HF.out (K := K) (by omega))
        go_wp2
        go_loopw [7, 28] (fun b i wk => ∃ j : Nat, j ≤ m ∧ i = .int .i64 j ∧ b = .int .i64 ((s.parts.take j).foldl (fun b p => pick b (codeAt (tab s.parts (K - 1)) p K)) (-1)) ∧ Below wo.heap.size wo wk) (fun _ i _ => m - (intOf i).toNat)
        case atStart => exact ⟨0, Nat.zero_le _, rfl, rfl, Below.refl _ _⟩
        case round =>
          obtain ⟨j, hj, rfl, rfl, hbk⟩ := hrel
          have HBK := Lib.hid hbk
          have owk := hbk.size
          obtain ⟨e0, e1, e2⟩ := (HT.out.below hbk og).three.1
          by_cases hjm : j < m
          · obtain ⟨b', o', q, hee, hbb, hq, d0, d1, d2, d3⟩ := (HPT.out.below hbk (show pb + 1 ≤ wo.heap.size by omega) (Nat.le_refl _)).at_ hjm
            obtain ⟨rfl, rfl⟩ : pb = b' ∧ po = o' := by simpa using hee
            have hqf := HF.out q (List.mem_of_getElem? hq)
            have HQF := Lib.hid hqf
            have HBT := Lib.hid (best_take (T := tab s.parts (K - 1)) (K := K) hq)
            have hbd := best_take_bd HF.out K (by omega) j
            have hcb := codeAt_bd HCB.out (by omega) hqf K
            obtain ⟨bd1, bd2⟩ := hbd
            obtain ⟨cb1, cb2⟩ := hcb
            have HCW := Lib.hid (fun (W : World) (hW : Below wo.heap.size wo W) => codeWith_any (some ⟨pb, po, none⟩) TA m pc K tc s.unit (tab s.parts (K - 1)) q K W (HI.out W hW) hqf (Nat.le_refl _) (by omega) HCB.out)
            have opk : pb < wr.heap.size := by omega
            have ogk : g < wr.heap.size := by omega
            clear hbk hbb hee hq hqf
            generalize (s.parts.take j).foldl (fun b p => pick b (codeAt (tab s.parts (K - 1)) p K)) (-1) = b at *
            generalize codeAt (tab s.parts (K - 1)) q K = cc at *
            by_cases q1 : cc = -1
            · have hp : pick b cc = b := by unfold pick; simp [q1]
              rw [hp] at HBT
              subst q1
              clear hp
              go_wp2_with (go_at_call 57; refine (HCW.out _ (by have hb0 := HBK.out; exact (by repeat (first | with_reducible exact Below.refl _ _ | with_reducible assumption | with_reducible refine Below.drew ?_ | with_reducible refine Below.drewN ?_ _ | with_reducible refine Below.alloc2 ?_ _ | with_reducible refine Below.alloc ?_ (by first | omega | (simp <;> omega)) _ | with_reducible refine Below.setCell ?_ (by first | omega | (simp <;> omega)) _ | with_reducible refine Below.step2 (by with_reducible assumption) ?_ | with_reducible refine Below.step (by with_reducible assumption) ?_ (by first | omega | (simp <;> omega)))))).mono ?_; rintro e wd ⟨hbd, rfl⟩; have HBD : Hid (Below wo.heap.size wo wd) := Lib.hid (by have hb0 := HBK.out; exact (by repeat (first | with_reducible exact Below.refl _ _ | with_reducible assumption | with_reducible refine Below.drew ?_ | with_reducible refine Below.drewN ?_ _ | with_reducible refine Below.alloc2 ?_ _ | with_reducible refine Below.alloc ?_ (by first | omega | (simp <;> omega)) _ | with_reducible refine Below.setCell ?_ (by first | omega | (simp <;> omega)) _ | with_reducible refine Below.step2 (by with_reducible assumption) ?_ | with_reducible refine Below.step (by with_reducible assumption) ?_ (by first | omega | (simp <;> omega))))); clear hbd)
              go_roundw
              case rel =>
                have hbd := HBD.out
                exact ⟨j + 1, by omega, by go_num, by rw [HBT.out], (by repeat (first | with_reducible exact Below.refl _ _ | with_reducible assumption | with_reducible refine Below.drew ?_ | with_reducible refine Below.drewN ?_ _ | with_reducible refine Below.alloc2 ?_ _ | with_reducible refine Below.alloc ?_ (by first | omega | (simp <;> omega)) _ | with_reducible refine Below.setCell ?_ (by first | omega | (simp <;> omega)) _ | with_reducible refine Below.step2 (by with_reducible assumption) ?_ | with_reducible refine Below.step (by with_reducible assumption) ?_ (by first | omega | (simp <;> omega))))⟩
              case measure => simp [intOf]; omega
            · have q1b : (cc == -1) = false := by simpa using q1
              by_cases q2 : b = -1
              · have hp : pick b cc = cc := by unfold pick; simp [q1, q2]
                rw [hp] at HBT
                subst q2
                clear hp
                go_wp2_with (go_at_call 57; refine (HCW.out _ (by have hb0 := HBK.out; exact (by repeat (first | with_reducible exact Below.refl _ _ | with_reducible assumption | with_reducible refine Below.drew ?_ | with_reducible refine Below.drewN ?_ _ | with_reducible refine Below.alloc2 ?_ _ | with_reducible refine Below.alloc ?_ (by first | omega | (simp <;> omega)) _ | with_reducible refine Below.setCell ?_ (by first | omega | (simp <;> omega)) _ | with_reducible refine Below.step2 (by with_reducible assumption) ?_ | with_reducible refine Below.step (by with_reducible assumption) ?_ (by first | omega | (simp <;> omega)))))).mono ?_; rintro e wd ⟨hbd, rfl⟩; have HBD : Hid (Below wo.heap.size wo wd) := Lib.hid (by have hb0 := HBK.out; exact (by repeat (first | with_reducible exact Below.refl _ _ | with_reducible assumption | with_reducible refine Below.drew ?_ | with_reducible refine Below.drewN ?_ _ | with_reducible refine Below.alloc2 ?_ _ | with_reducible refine Below.alloc ?_ (by first | omega | (simp <;> omega)) _ | with_reducible refine Below.setCell ?_ (by first | omega | (simp <;> omega)) _ | with_reducible refine Below.step2 (by with_reducible assumption) ?_ | with_reducible refine Below.step (by with_reducible assumption) ?_ (by first | omega | (simp <;> omega))))); clear hbd)
                go_roundw
                case rel =>
                  have hbd := HBD.out
                  exact ⟨j + 1, by omega, by go_num, by rw [HBT.out], (by repeat (first | with_reducible exact Below.refl _ _ | with_reducible assumption | with_reducible refine Below.drew ?_ | with_reducible refine Below.drewN ?_ _ | with_reducible refine Below.alloc2 ?_ _ | with_reducible refine Below.alloc ?_ (by first | omega | (simp <;> omega)) _ | with_reducible refine Below.setCell ?_ (by first | omega | (simp <;> omega)) _ | with_reducible refine Below.step2 (by with_reducible assumption) ?_ | with_reducible refine Below.step (by with_reducible assumption) ?_ (by first | omega | (simp <;> omega))))⟩
                case measure => simp [intOf]; omega
              · have q2b : (b == -1) = false := by simpa using q2
                by_cases q3 : cc < b
                · have hp : pick b cc = cc := by unfold pick; simp [q1, q3]
                  rw [hp] at HBT
                  clear hp
                  go_wp2_with (go_at_call 57; refine (HCW.out _ (by have hb0 := HBK.out; exact (by repeat (first | with_reducible exact Below.refl _ _ | with_reducible assumption | with_reducible refine Below.drew ?_ | with_reducible refine Below.drewN ?_ _ | with_reducible refine Below.alloc2 ?_ _ | with_reducible refine Below.alloc ?_ (by first | omega | (simp <;> omega)) _ | with_reducible refine Below.setCell ?_ (by first | omega | (simp <;> omega)) _ | with_reducible refine Below.step2 (by with_reducible assumption) ?_ | with_reducible refine Below.step (by with_reducible assumption) ?_ (by first | omega | (simp <;> omega)))))).mono ?_; rintro e wd ⟨hbd, rfl⟩; have HBD : Hid (Below wo.heap.size wo wd) := Lib.hid (by have hb0 := HBK.out; exact (by repeat (first | with_reducible exact Below.refl _ _ | with_reducible assumption | with_reducible refine Below.drew ?_ | with_reducible refine Below.drewN ?_ _ | with_reducible refine Below.alloc2 ?_ _ | with_reducible refine Below.alloc ?_ (by first | omega | (simp <;> omega)) _ | with_reducible refine Below.setCell ?_ (by first | omega | (simp <;> omega)) _ | with_reducible refine Below.step2 (by with_reducible assumption) ?_ | with_reducible refine Below.step (by with_reducible assumption) ?_ (by first | omega | (simp <;> omega))))); clear hbd)
                  go_roundw
                  case rel =>
                    have hbd := HBD.out
                    exact ⟨j + 1, by omega, by go_num, by rw [HBT.out], (by repeat (first | with_reducible exact Below.refl _ _ | with_reducible assumption | with_reducible refine Below.drew ?_ | with_reducible refine Below.drewN ?_ _ | with_reducible refine Below.alloc2 ?_ _ | with_reducible refine Below.alloc ?_ (by first | omega | (simp <;> omega)) _ | with_reducible refine Below.setCell ?_ (by first | omega | (simp <;> omega)) _ | with_reducible refine Below.step2 (by with_reducible assumption) ?_ | with_reducible refine Below.step (by with_reducible assumption) ?_ (by first | omega | (simp <;> omega))))⟩
                  case measure => simp [intOf]; omega
                · have hp : pick b cc = b := by unfold pick; rw [if_neg]; omega
                  rw [hp] at HBT
                  clear hp
                  go_wp2_with (go_at_call 57; refine (HCW.out _ (by have hb0 := HBK.out; exact (by repeat (first | with_reducible exact Below.refl _ _ | with_reducible assumption | with_reducible refine Below.drew ?_ | with_reducible refine Below.drewN ?_ _ | with_reducible refine Below.alloc2 ?_ _ | with_reducible refine Below.alloc ?_ (by first | omega | (simp <;> omega)) _ | with_reducible refine Below.setCell ?_ (by first | omega | (simp <;> omega)) _ | with_reducible refine Below.step2 (by with_reducible assumption) ?_ | with_reducible refine Below.step (by with_reducible assumption) ?_ (by first | omega | (simp <;> omega)))))).mono ?_; rintro e wd ⟨hbd, rfl⟩; have HBD : Hid (Below wo.heap.size wo wd) := Lib.hid (by have hb0 := HBK.out; exact (by repeat (first | with_reducible exact Below.refl _ _ | with_reducible assumption | with_reducible refine Below.drew ?_ | with_reducible refine Below.drewN ?_ _ | with_reducible refine Below.alloc2 ?_ _ | with_reducible refine Below.alloc ?_ (by first | omega | (simp <;> omega)) _ | with_reducible refine Below.setCell ?_ (by first | omega | (simp <;> omega)) _ | with_reducible refine Below.step2 (by with_reducible assumption) ?_ | with_reducible refine Below.step (by with_reducible assumption) ?_ (by first | omega | (simp <;> omega))))); clear hbd)
                  go_roundw
                  case rel =>
                    have hbd := HBD.out
                    exact ⟨j + 1, by omega, by go_num, by rw [HBT.out], (by repeat (first | with_reducible exact Below.refl _ _ | with_reducible assumption | with_reducible refine Below.drew ?_ | with_reducible refine Below.drewN ?_ _ | with_reducible refine Below.alloc2 ?_ _ | with_reducible refine Below.alloc ?_ (by first | omega | (simp <;> omega)) _ | with_reducible refine Below.setCell ?_ (by first | omega | (simp <;> omega)) _ | with_reducible refine Below.step2 (by with_reducible assumption) ?_ | with_reducible refine Below.step (by with_reducible assumption) ?_ (by first | omega | (simp <;> omega))))⟩
                  case measure => simp [intOf]; omega
          · have e : m = j := by omega
            subst e
            have HBE : Hid ((s.parts.take m).foldl (fun b p => pick b (codeAt (tab s.parts (K - 1)) p K)) (-1) = bestOf s.parts (tab s.parts (K - 1)) K) := Lib.hid (by rw [List.take_of_length_le (by rw [HPL.out]; exact Nat.le_refl _)]; rfl)
            generalize (s.parts.take m).foldl (fun b p => pick b (codeAt (tab s.parts (K - 1)) p K)) (-1) = b at *
            have HOW1 := Lib.hid (own_step HOWN.out HBK.out)
            have HTr := Lib.hid (HT.out.below HBK.out og)
            have HRr := Lib.hid (HR.out.below HBK.out HR.out.lt)
            have og2 := HTr.out.lt
            have or2 := HRr.out.lt
            have op2 : pb < wr.heap.size := by omega
            clear hbk
            go_wp2_with (at_builtin; refine wpList_append_own_at _ rfl _ _ _ rfl (w.heap.size + 2) 3 i0 _ 1 8 Try.underlying22 HI0.out HZ0.out HZ1.out HZ2.out rfl (by omega) (.slice TA K tc) K _ rfl (HOW1.out.alloc _) ⟨wr.heap.size, 0, none⟩ 1 1 [.int .i64 b] rfl rfl (World.news_of_block (cs := #[.int .i64 b]) (t := 3) (fr := (0, 0)) (heap_alloc_new wr _)) (i64s_one [b]) (by unfold maxLen; omega) (by omega) (by simp; omega) ?_; intro v1 w1 hown1 hg1 _ hob; obtain ⟨A1, c1, rfl, -, -⟩ := Sl.of_own hown1; have HNA : Hid (some g ≠ (Value.slice A1 (K + 1) c1).ownBlock) := Lib.hid (by rcases hob with e | e <;> rw [e]; exact HNE1.out; intro h; simp at h; omega); have HNB : Hid (some pb ≠ (Value.slice A1 (K + 1) c1).ownBlock) := Lib.hid (by rcases hob with e | e <;> rw [e]; exact HNE2.out; intro h; simp at h; omega); have hk1 : Bk w1 g 68 #[.int .i64 s.unit, .slice (some ⟨pb, po, none⟩) m pc, .slice TA K tc] := (hg1.block g (by simp; omega) HNE1.out).trans (HTr.out.alloc _); have hq1 : Bk w1 (w.heap.size + 1) 68 #[.int .i64 0, .slice none 0 0, .slice none 0 0] := (hg1.block _ (by simp; omega) (fun e => by have := (HOW1.out.lt _ e.symm).1; omega)).trans (HRr.out.alloc _); obtain ⟨⟨t0, t1, t2⟩, f0, f1, f2⟩ := hk1.three; have og3 := hk1.lt; have HK1 := Lib.hid hk1; have HQ1 := Lib.hid hq1; have HG1 := Lib.hid hg1; have HO1 := Lib.hid hown1; clear hk1 hq1 hown1 hg1 hob)
            go_roundw
            case rel =>
              have hb0 := HB.out
              have hbk := HBK.out
              have hbl : Below w.heap.size w wr := (by repeat (first | with_reducible exact Below.refl _ _ | with_reducible assumption | with_reducible refine Below.drew ?_ | with_reducible refine Below.drewN ?_ _ | with_reducible refine Below.alloc2 ?_ _ | with_reducible refine Below.alloc ?_ (by first | omega | (simp <;> omega)) _ | with_reducible refine Below.setCell ?_ (by first | omega | (simp <;> omega)) _ | with_reducible refine Below.step2 (by with_reducible assumption) ?_ | with_reducible refine Below.step (by with_reducible assumption) ?_ (by first | omega | (simp <;> omega))))
              refine ⟨K + 1, .slice A1 (K + 1) c1, ⟨by omega, by omega⟩, by go_num, ?_, own_set ?_ _ HNA.out, ⟨HNA.out, HNB.out⟩, HPT.out.keep ((((Same.refl pb wo).step hbk hpb).alloc _ op2).grown HG1.out (by simp; omega) HNE2.out |>.set _ (by show g ≠ pb; omega)), HQ1.out.other (by show w.heap.size + 1 ≠ g; omega) _, ?_, ((hbl.alloc hbl.size _).grown HG1.out (by simp; omega) (fun q hq => by have := (HOW1.out.lt _ hq).1; omega)).setCell (by show w.heap.size ≤ g; omega) _⟩
              · have := HK1.out.set_ 2 (.slice A1 (K + 1) c1)
                simpa using this
              · rw [Nat.add_sub_cancel, tab_pred _ hK1, i64s_append, ← HBE.out]
                exact HO1.out
              · have := HG1.out.size
                simp at this ⊢
                omega
            case measure => simp [intOf]; omega
      · obtain rfl : K = N + 1 := by omega
        obtain ⟨⟨r0, r1, r2⟩, q0, q1, q2⟩ := HR.out.three
        have or1 := HR.out.lt
        go_wp2
        have hb0 := HB.out
        have hown := HOWN.out
        refine bodyPost_ret (v := .agg #[.int .i64 s.unit, .slice (some ⟨pb, po, none⟩) m pc, .slice TA (N + 1) tc]) (by simp [results, Try.results54, go_sem, r0, r1, r2]) rfl ⟨(by repeat (first | with_reducible exact Below.refl _ _ | with_reducible assumption | with_reducible refine Below.drew ?_ | with_reducible refine Below.drewN ?_ _ | with_reducible refine Below.alloc2 ?_ _ | with_reducible refine Below.alloc ?_ (by first | omega | (simp <;> omega)) _ | with_reducible refine Below.setCell ?_ (by first | omega | (simp <;> omega)) _ | with_reducible refine Below.step2 (by with_reducible assumption) ?_ | with_reducible refine Below.step (by with_reducible assumption) ?_ (by first | omega | (simp <;> omega)))), _, _, _, _, _, rfl, ?_, ?_, fun a e => ?_, fun a e => ?_⟩
        · exact (HPT.out.keep (show Same pb wo _ from (by repeat (first | with_reducible exact Same.refl _ _ | with_reducible assumption | with_reducible refine Same.drew ?_ | with_reducible refine Same.drewN ?_ _ | with_reducible refine Same.alloc ?_ _ (by first | omega | (simp; omega)) | with_reducible refine Same.set ?_ _ (by first | omega | (simp; omega)) | with_reducible refine Same.step ?_ (by with_reducible assumption) (by first | omega | (simp; omega)))))).below (Below.refl _ _) (Nat.le_refl _) (by simp; omega)
        · have hne : some (w.heap.size + 1) ≠ (Value.slice TA (N + 1) tc).ownBlock := fun e => by have := (hown.lt _ e.symm).1; omega
          obtain ⟨TA', tc', e, hI⟩ := Ints.of_own (own_set (own_set (own_set hown _ hne) _ hne) _ hne)
          injection e with e1 e2 e3
          subst e1; subst e3
          exact hI
        · obtain rfl : (⟨pb, po, none⟩ : Addr) = a := Option.some.inj e
          show w.heap.size ≤ pb
          omega
        · subst e
          have := (hown.lt a.block rfl).1
          omega

end Go.Proofs.Ytkcbfkflkepfeaa
