/- The walk of the reference's Walls: sides appended one by one. -/
import Derived.Test.YtbfbjpnmgcpjlaaRefOut
import Derived.Deep.AppendLies
import Derived.Laws.OwnMore
import Derived.OwnWalk
namespace Go.Proofs.Ytbfbjpnmgcpjlaa
open Go.RowKit

section
variable {w w1 w2 : World} {base e size n : Nat} {v : Value} {xs : List Value}
theorem own_step (h : w1.ownsRow base e size v n xs) (hb : Below w1.heap.size w1 w2) : w2.ownsRow base e size v n xs :=
  h.kept (row := none) ⟨hb.os, hb.tape, hb.output, hb.size, fun i hi _ => hb.block i hi⟩ (by
    rcases h.2 with ⟨rfl, -⟩ | ⟨g, cap, cur, rfl, -⟩
    · exact .inl rfl
    · exact .inr (by simp [Value.ownBlock]))
/-- A row that the call owns, read as cells. -/
theorem Sl.of_own (h : w.ownsRow base e size v n xs) : ∃ A c, v = .slice A n c ∧ Sl w w.heap.size size A n c xs := by
  rcases h.2 with ⟨rfl, rfl⟩ | ⟨g, cap, cur, rfl, hbg, hh, hnc, hm, hs, hx⟩
  · have : xs = [] := List.eq_nil_of_length_eq_zero (by have := h.1; omega)
    subst this
    exact ⟨none, 0, rfl, Sl.nil_ _ _ _⟩
  · refine ⟨_, cap, rfl, ?_⟩
    have hb : Bk w g e cur := hh
    rw [← hx]
    exact hb.sl hb.lt hnc hm (by rw [hs]; exact Nat.mul_le_mul_right _ hnc)
end

theorem vals_cells (s : Side) : s.vals.toList = s.cells := rfl
theorem cells_one (s : Side) : ∀ u ∈ s.cells, u.oneCell' = true := by
  intro u hu
  simp [Side.cells] at hu
  rcases hu with rfl | rfl | rfl | rfl | rfl | rfl <;> rfl

set_option maxRecDepth 100000 in
set_option maxHeartbeats 8000000 in
theorem refWalls_any (A : Option Addr) (n c : Nat) (l : List (Int × Int)) (w : World) (h : Pts w w.heap.size A n c l) (hn : n ≤ 100) (hin : l.all inP = true) :
    Calls Try.prog 26 #[.slice A n c] w fun e w' => Below w.heap.size w w' ∧ ∃ A' c', e = .returned (.slice A' n c') ∧ Walls w' w'.heap.size A' n c' (sides l) := by
  have hcap := h.cap
  have hmax := h.max
  have HLEN := Lib.hid h.len
  have HIN := Lib.hid hin
  have H : Hid (∀ w', Below w.heap.size w w' → Pts w' w'.heap.size A n c l) := fun w' hb => h.below hb (Nat.le_refl _) hb.size
  have H0 : Hid (∀ w', Below w.heap.size w w' → Pts w' w.heap.size A n c l) := fun w' hb => h.below hb (Nat.le_refl _) (Nat.le_refl _)
  obtain ⟨i0, hi0, hz0, hz1, hz2⟩ := info_parts info_wall
  have HI0 := Lib.hid hi0
  have HZ0 := Lib.hid hz0
  have HZ1 := Lib.hid hz1
  have HZ2 := Lib.hid hz2
  clear h hin hi0 hz0 hz1 hz2
  go_enter Try.func26, Try.ntmps26
  go_wp2
  go_loopw [3, 4] (fun v i wr => ∃ k : Nat, k ≤ n ∧ i = .int .i64 k ∧ wr.ownsRow w.heap.size 59 6 v k (scells (sidesTo l k)) ∧ Below w.heap.size w wr) (fun _ i _ => n - (intOf i).toNat)
  case atStart => exact ⟨0, Nat.zero_le _, rfl, World.ownsRow_nil _ _ _ _, Below.refl _ _⟩
  case round =>
    obtain ⟨k, hk, rfl, hown, hb⟩ := hrel
    by_cases hlt : k < n
    · have hj : nx l k < n := by have := nx_lt (l := l) (k := k) (by rw [HLEN.out]; exact hlt); rwa [HLEN.out] at this
      obtain ⟨b, o, x, y, rfl, hbb, hx, c0, c1⟩ := (H0.out _ hb).at_ hlt
      obtain ⟨b', o', u, v, e, hbb', hu, -, -⟩ := (H0.out _ hb).at_ hj
      obtain ⟨⟨p11, p12⟩, p13, p14⟩ := pt_in HIN.out hx
      obtain ⟨⟨p21, p22⟩, p23, p24⟩ := pt_in HIN.out hu
      have hnx := next_any (some ⟨b, o, none⟩) n c k l wr (H.out _ hb) hlt
      rw [pt_of hu] at hnx
      have HNX := Lib.hid hnx
      have HB := Lib.hid hb
      have HOWN := Lib.hid hown
      have ow := hb.size
      have HS : Hid (sideK l k = ⟨x, y, u, v, gap x u + gap y v, dirP (x, y) (u, v)⟩) := Lib.hid (by unfold sideK sideOf; rw [pt_of hx, pt_of hu])
      have hg1 : absI (u - x) = gap x u := by unfold absI gap; omega
      have hg2 : absI (v - y) = gap y v := by unfold absI gap; omega
      have gb1 : 0 ≤ gap x u ∧ gap x u ≤ 2000000 := by unfold gap; omega
      have gb2 : 0 ≤ gap y v ∧ gap y v ≤ 2000000 := by unfold gap; omega
      obtain ⟨gb11, gb12⟩ := gb1
      obtain ⟨gb21, gb22⟩ := gb2
      have HA1 := Lib.hid (fun W : World => abs_any (u - x) W (by omega) (by omega))
      have HA2 := Lib.hid (fun W : World => abs_any (v - y) W (by omega) (by omega))
      rw [hg1] at HA1
      rw [hg2] at HA2
      have hw1 : IntKind.i64.wrap (u - x) = u - x := IntWalk.i64_in _ (by omega)
      have hw2 : IntKind.i64.wrap (v - y) = v - y := IntWalk.i64_in _ (by omega)
      have hw3 : IntKind.i64.wrap (gap x u + gap y v) = gap x u + gap y v := IntWalk.i64_in _ (by omega)
      clear hx hu hb e hnx hbb' hown hg1 hg2
      go_wp2_with fail
      refine HNX.out.mono ?_
      rintro e w1 ⟨hb1, rfl⟩
      obtain ⟨hc1, -⟩ := bcell hb1
      have hz1 := hb1.size
      replace c0 := (hc1 _ _ (by omega)).trans c0
      replace c1 := (hc1 _ _ (by omega)).trans c1
      have HB1 := Lib.hid hb1
      have HOW1 := Lib.hid (own_step HOWN.out hb1)
      clear hb1 hc1
      have hfar : ∀ g, u3.ownBlock = some g → w.heap.size ≤ g ∧ g < w1.heap.size := HOW1.out.lt
      have hf1 : some b ≠ u3.ownBlock := fun e => by have := hfar _ e.symm; omega
      have hf2 : some w1.heap.size ≠ u3.ownBlock := fun e => by have := hfar _ e.symm; omega
      have HF1 := Lib.hid hf1
      have HF2 := Lib.hid hf2
      have q0 : (w1.alloc (.cells #[.int .i64 u, .int .i64 v] 57)).cell? ⟨w1.heap.size, 0, none⟩ = some (.int .i64 u) := by simp
      have q1 : (w1.alloc (.cells #[.int .i64 u, .int .i64 v] 57)).cell? ⟨w1.heap.size, 1, none⟩ = some (.int .i64 v) := by simp
      have r0 : (w1.alloc (.cells #[.int .i64 u, .int .i64 v] 57)).cell? ⟨b, o + k * 2, none⟩ = some (.int .i64 x) := (World.cell?_alloc_lt w1 _ _ (by show b < w1.heap.size; omega)).trans c0
      have r1 : (w1.alloc (.cells #[.int .i64 u, .int .i64 v] 57)).cell? ⟨b, o + k * 2 + 1, none⟩ = some (.int .i64 y) := (World.cell?_alloc_lt w1 _ _ (by show b < w1.heap.size; omega)).trans c1
      have ob : b < w1.heap.size + 1 := by omega
      clear hfar hf1 hf2 c0 c1
      go_wp2
      go_region_held3 (fun w' => w'.cell? ⟨b, o + k * 2, none⟩ = some (.int .i64 x) ∧ w'.cell? ⟨b, o + k * 2 + 1, none⟩ = some (.int .i64 y) ∧ w'.cell? ⟨w1.heap.size, 0, none⟩ = some (.int .i64 u) ∧ w'.cell? ⟨w1.heap.size, 1, none⟩ = some (.int .i64 v))
        (first
          | go_keep
          | (refine ⟨?_, ?_, ?_, ?_⟩
             · (rw [hgrow.cell_far _ (by simp; omega) HF1.out, World.cell?_alloc_lt _ _ _ (by show b < _; omega)]; assumption)
             · (rw [hgrow.cell_far _ (by simp; omega) HF1.out, World.cell?_alloc_lt _ _ _ (by show b < _; omega)]; assumption)
             · (rw [hgrow.cell_far _ (by simp; omega) HF2.out, World.cell?_alloc_lt _ _ _ (by show w1.heap.size < _; omega)]; assumption)
             · (rw [hgrow.cell_far _ (by simp; omega) HF2.out, World.cell?_alloc_lt _ _ _ (by show w1.heap.size < _; omega)]; assumption)))
        (first
          | (go_at_call_of 35 (Value.int .i64 (u - x)); refine (HA1.out _).mono ?_; rintro e we ⟨rfl, rfl⟩)
          | (go_at_call_of 35 (Value.int .i64 (v - y)); refine (HA2.out _).mono ?_; rintro e we ⟨rfl, rfl⟩)
          | (go_at_call 55; refine (refDir_any _ _ _ _ _).mono ?_; rintro e wd ⟨hbd, rfl⟩; obtain ⟨hcd, -⟩ := bcell hbd; have hzd := hbd.size; simp at hzd
             have HOWD := Lib.hid (own_step ((HOW1.out.alloc _).drew) hbd)
             have HBD : Hid (Below w1.heap.size w1 wd) := Lib.hid (by exact (by repeat (first | with_reducible exact Below.refl _ _ | with_reducible assumption | with_reducible refine Below.drew ?_ | with_reducible refine Below.drewN ?_ _ | with_reducible refine Below.alloc2 ?_ _ | with_reducible refine Below.alloc ?_ (by first | omega | (simp <;> omega)) _ | with_reducible refine Below.setCell ?_ (by first | omega | (simp <;> omega)) _ | with_reducible refine Below.step2 (by with_reducible assumption) ?_ | with_reducible refine Below.step (by with_reducible assumption) ?_ (by first | omega | (simp <;> omega)))))
             have s0 := (hcd b (o + k * 2) (by simp; omega)).trans r0
             have s1 := (hcd b (o + k * 2 + 1) (by simp; omega)).trans r1
             have s2 := (hcd w1.heap.size 0 (by simp)).trans q0
             have s3 := (hcd w1.heap.size 1 (by simp)).trans q1
             clear hbd hcd)
          | (refine step_append_lies _ (by rfl) _ _ _ (by rfl) w.heap.size 59 i0 _ 6 48 Try.underlying45 HI0.out HZ0.out HZ1.out HZ2.out rfl (by omega) u3 k _ (by rfl) (HOWD.out.alloc _)
               ⟨wd.heap.size, 0, none⟩ 1 1 (Side.cells ⟨x, y, u, v, gap x u + gap y v, dirP (x, y) (u, v)⟩) (by rfl) (by rfl) (World.news_of_block (cs := Side.vals ⟨x, y, u, v, gap x u + gap y v, dirP (x, y) (u, v)⟩) (t := 59) (fr := (0, 0)) (heap_alloc_new wd _)) (cells_one _)
               (by omega) (by unfold maxLen; omega) (by omega) (by simp; omega) (wd.heap.size + 1) (by simp) ?_; intro gg cap w4 hown4 hgrow hat hlt4))
      have HOW4 := Lib.hid hown4
      have HG4 := Lib.hid hgrow
      clear hown4 hgrow hat
      go_wp2
      go_roundw
      case rel =>
        have hb := HB.out
        have hb1 := HB1.out
        have hbd := HBD.out
        have hbl : Below w.heap.size w wd := (by repeat (first | with_reducible exact Below.refl _ _ | with_reducible assumption | with_reducible refine Below.drew ?_ | with_reducible refine Below.drewN ?_ _ | with_reducible refine Below.alloc2 ?_ _ | with_reducible refine Below.alloc ?_ (by first | omega | (simp <;> omega)) _ | with_reducible refine Below.setCell ?_ (by first | omega | (simp <;> omega)) _ | with_reducible refine Below.step2 (by with_reducible assumption) ?_ | with_reducible refine Below.step (by with_reducible assumption) ?_ (by first | omega | (simp <;> omega))))
        refine ⟨k + 1, by omega, by go_num, ?_, (hbl.alloc hbl.size _).grown HG4.out (by simp; omega) (fun g hg => (HOWD.out.lt g hg).1)⟩
        have := HOW4.out
        rw [sidesTo_succ, scells_append, HS.out]
        simpa [scells] using this
      case measure => simp [intOf]; omega
    · have e : k = n := by omega
      subst e
      obtain ⟨A', c', rfl, hsl⟩ := Sl.of_own hown
      have HB := Lib.hid hb
      have HSL := Lib.hid hsl
      clear hb hsl hown
      go_wp2
      go_ret
      refine ⟨HB.out, A', c', rfl, ⟨?_⟩⟩
      unfold sides
      rw [HLEN.out]
      exact HSL.out

end Go.Proofs.Ytbfbjpnmgcpjlaa
