/- Walks: partsOf of the program. -/
import Derived.Test.YtkcbfkflkepfeaaParts
import Derived.RegionTactic
namespace Go.Proofs.Ytkcbfkflkepfeaa
open Go.RowKit

set_option maxRecDepth 100000 in
set_option maxHeartbeats 8000000 in
theorem partsOf_any (A A2 : Option Addr) (n c n2 c2 : Nat) (s : Sys) (w : World) (h : SysAt w w.heap.size A n c A2 n2 c2 s) (hs : s.Ok) :
    Calls Try.prog 50 #[.agg #[.slice A n c, .slice A2 n2 c2, .int .i64 s.width, .int .i64 s.gap, .int .i64 s.lift]] w fun e w' => Below w.heap.size w w' ∧ ∃ v, e = .returned v ∧ w'.ownsRow (w.heap.size + 1) 80 4 v (n + n2) (ptcells s.parts) := by
  have hcapA := h.a.nums.cap; have hmaxA := h.a.nums.max; have hcapB := h.b.nums.cap; have hmaxB := h.b.nums.max; have HLA := Lib.hid h.a.nums.len; have HLB := Lib.hid h.b.nums.len; have H : Hid (∀ w', Below w.heap.size w w' → SysAt w' w.heap.size A n c A2 n2 c2 s) := fun w' hb => h.below hb (Nat.le_refl _) (Nat.le_refl _); have HS : Hid (∀ w', Below w.heap.size w w' → SysAt w' w'.heap.size A n c A2 n2 c2 s) := fun w' hb => h.below hb (Nat.le_refl _) hb.size; clear h
  have HOK := Lib.hid hs
  have hnA : n ≤ 8 := by have := hs.bays; rw [HLA.out] at this; exact this
  have hnB : n2 ≤ 8 := by have := hs.boards; rw [HLB.out] at this; exact this
  have hn1 : 1 ≤ n := by have := hs.some_; rw [HLA.out] at this; exact this
  have hu := hs.unit_bd
  obtain ⟨hu1, hu2⟩ := hu
  have hu0 : ¬ s.unit = 0 := by omega
  obtain ⟨i0, hi0, hz0, hz1, hz2⟩ := info_parts info_part
  have HI0 := Lib.hid hi0
  have HZ0 := Lib.hid hz0
  have HZ1 := Lib.hid hz1
  have HZ2 := Lib.hid hz2
  clear hs hi0 hz0 hz1 hz2
  go_enter Try.func50, Try.ntmps50
  go_wp2_with (go_at_call 49; refine (unit_any _ _ _ _ _ _ _ _ (HS.out _ (by exact (by repeat (first | with_reducible exact Below.refl _ _ | with_reducible assumption | with_reducible refine Below.drew ?_ | with_reducible refine Below.drewN ?_ _ | with_reducible refine Below.alloc2 ?_ _ | with_reducible refine Below.alloc ?_ (by first | omega | (simp <;> omega)) _ | with_reducible refine Below.setCell ?_ (by first | omega | (simp <;> omega)) _ | with_reducible refine Below.step2 (by with_reducible assumption) ?_ | with_reducible refine Below.step (by with_reducible assumption) ?_ (by first | omega | (simp <;> omega)))))) HOK.out).mono ?_; rintro e w1 ⟨hb1, rfl⟩; have HB1 : Hid (Below w.heap.size w w1) := Lib.hid (by exact (by repeat (first | with_reducible exact Below.refl _ _ | with_reducible assumption | with_reducible refine Below.drew ?_ | with_reducible refine Below.drewN ?_ _ | with_reducible refine Below.alloc2 ?_ _ | with_reducible refine Below.alloc ?_ (by first | omega | (simp <;> omega)) _ | with_reducible refine Below.setCell ?_ (by first | omega | (simp <;> omega)) _ | with_reducible refine Below.step2 (by with_reducible assumption) ?_ | with_reducible refine Below.step (by with_reducible assumption) ?_ (by first | omega | (simp <;> omega))))); have HK1 : Hid (Bk w1 w.heap.size 24 #[.slice A n c, .slice A2 n2 c2, .int .i64 s.width, .int .i64 s.gap, .int .i64 s.lift]) := Lib.hid (Bk.below (by exact (by repeat (first | with_reducible assumption | with_reducible exact Bk.at_ (by first | (simp; done) | omega) | with_reducible refine Bk.alloc ?_ _ | with_reducible refine Bk.drew ?_ | with_reducible refine Bk.drewN ?_ _ | with_reducible refine Bk.step (by with_reducible assumption) ?_ (by first | omega | (simp <;> omega))))) hb1 (by simp)); obtain ⟨⟨a0, a1, a2, a3, a4⟩, -⟩ := HK1.out.five; clear hb1)
  go_loopw [4, 14] (fun v i wr => ∃ k : Nat, k ≤ n ∧ i = .int .i64 k ∧ wr.ownsRow (w.heap.size + 1) 80 4 v (k) (ptcells ((s.bays.take k).map s.bay)) ∧ Bk wr w.heap.size 24 #[.slice A n c, .slice A2 n2 c2, .int .i64 s.width, .int .i64 s.gap, .int .i64 s.lift] ∧ Below w.heap.size w wr) (fun _ i _ => n - (intOf i).toNat)
  case atStart => exact ⟨0, Nat.zero_le _, rfl, World.ownsRow_nil _ _ _ _, HK1.out, HB1.out⟩
  case round =>
    obtain ⟨k, hk, rfl, hown, hbk, hb⟩ := hrel
    have HB := Lib.hid hb
    have HOWN := Lib.hid hown
    have HBK := Lib.hid hbk
    obtain ⟨⟨a0, a1, a2, a3, a4⟩, -⟩ := hbk.five
    have ow := hb.size
    have og := hbk.lt
    by_cases hlt : k < n
    · obtain ⟨b, o, x, rfl, hbb, hx, d0⟩ := (H.out _ hb).a.nums.at_ hlt
      have hxa : x ∈ s.all := List.mem_append_left _ (List.mem_of_getElem? hx)
      have hub := HOK.out.units hxa
      have HMT := Lib.hid (map_take (s.bay) hx)
      have HX := Lib.hid hx
      obtain ⟨u1, u2⟩ := hub
      have hquo : IntKind.i64.wrap (x.tdiv s.unit) = x.tdiv s.unit := IntWalk.i64_in _ (by omega)
      have ob : b < wr.heap.size := by omega
      clear hx hb hown hbk hbb hxa
      have HEQ : Hid (s.bay x = ⟨x, x.tdiv s.unit, 10000 * (odds s.reg [x] : Int) + 1, false⟩) := Lib.hid (bay_eq _ _)
      have hq2 : odds s.reg [x] ≤ 1 := Nat.le_trans (odds_le _ _) (by simp)
      generalize hqd : x.tdiv s.unit = q at *
      generalize hql : odds s.reg [x] = r at *
      have HQL := Lib.hid hql
      clear hql
      go_wp2
      go_region_held3 (fun w' => w'.cell? ⟨w.heap.size, 0, none⟩ = some (.slice (some ⟨b, o, none⟩) n c) ∧ w'.cell? ⟨w.heap.size, 1, none⟩ = some (.slice A2 n2 c2) ∧ w'.cell? ⟨w.heap.size, 2, none⟩ = some (.int .i64 s.width) ∧ w'.cell? ⟨w.heap.size, 3, none⟩ = some (.int .i64 s.gap) ∧ w'.cell? ⟨w.heap.size, 4, none⟩ = some (.int .i64 s.lift))
        (first
          | go_keep
          | (refine ⟨?_, ?_, ?_, ?_, ?_⟩
             · (rw [hgrow.cell_far _ (by simp; omega) HF.out, World.cell?_alloc_lt _ _ _ (by show w.heap.size < _; omega)]; assumption)
             · (rw [hgrow.cell_far _ (by simp; omega) HF.out, World.cell?_alloc_lt _ _ _ (by show w.heap.size < _; omega)]; assumption)
             · (rw [hgrow.cell_far _ (by simp; omega) HF.out, World.cell?_alloc_lt _ _ _ (by show w.heap.size < _; omega)]; assumption)
             · (rw [hgrow.cell_far _ (by simp; omega) HF.out, World.cell?_alloc_lt _ _ _ (by show w.heap.size < _; omega)]; assumption)
             · (rw [hgrow.cell_far _ (by simp; omega) HF.out, World.cell?_alloc_lt _ _ _ (by show w.heap.size < _; omega)]; assumption)))
        (first
          | (go_at_call 39; refine (costOf_any _ _ _ _ _ _ _ _ (HS.out _ (by have hb0 := HB.out; exact (by repeat (first | with_reducible exact Below.refl _ _ | with_reducible assumption | with_reducible refine Below.drew ?_ | with_reducible refine Below.drewN ?_ _ | with_reducible refine Below.alloc2 ?_ _ | with_reducible refine Below.alloc ?_ (by first | omega | (simp <;> omega)) _ | with_reducible refine Below.setCell ?_ (by first | omega | (simp <;> omega)) _ | with_reducible refine Below.step2 (by with_reducible assumption) ?_ | with_reducible refine Below.step (by with_reducible assumption) ?_ (by first | omega | (simp <;> omega)))))) _ _ _ _ _ _ [x] [] ⟨Ints.one (by exact Bk.at_ (by simp)), Ints.none_ _⟩ hn1 (by omega) (by omega)).mono ?_; rintro e wd ⟨hbd, rfl⟩; rw [HQL.out]; obtain ⟨hcd, -⟩ := bcell hbd; have hzd := hbd.size; simp at hzd
             have HBD : Hid (Below wr.heap.size wr wd) := Lib.hid (by exact (by repeat (first | with_reducible exact Below.refl _ _ | with_reducible assumption | with_reducible refine Below.drew ?_ | with_reducible refine Below.drewN ?_ _ | with_reducible refine Below.alloc2 ?_ _ | with_reducible refine Below.alloc ?_ (by first | omega | (simp <;> omega)) _ | with_reducible refine Below.setCell ?_ (by first | omega | (simp <;> omega)) _ | with_reducible refine Below.step2 (by with_reducible assumption) ?_ | with_reducible refine Below.step (by with_reducible assumption) ?_ (by first | omega | (simp <;> omega)))))
             have HOW1 := Lib.hid (own_step HOWN.out HBD.out)
             have s0 := ((bcell HBD.out).1 _ _ og).trans a0
             have s1 := ((bcell HBD.out).1 _ _ og).trans a1
             have s2 := ((bcell HBD.out).1 _ _ og).trans a2
             have s3 := ((bcell HBD.out).1 _ _ og).trans a3
             have s4 := ((bcell HBD.out).1 _ _ og).trans a4
             clear hbd hcd)
          | (go_at_call 63; refine (code_any _ _ _ (by omega) (by omega)).mono ?_; rintro e we ⟨hbe, rfl⟩; have hze := hbe.size; (try simp at hze)
             have HBE : Hid (Below wd.heap.size wd we) := Lib.hid (by exact (by repeat (first | with_reducible exact Below.refl _ _ | with_reducible assumption | with_reducible refine Below.drew ?_ | with_reducible refine Below.drewN ?_ _ | with_reducible refine Below.alloc2 ?_ _ | with_reducible refine Below.alloc ?_ (by first | omega | (simp <;> omega)) _ | with_reducible refine Below.setCell ?_ (by first | omega | (simp <;> omega)) _ | with_reducible refine Below.step2 (by with_reducible assumption) ?_ | with_reducible refine Below.step (by with_reducible assumption) ?_ (by first | omega | (simp <;> omega)))))
             have HOW2 := Lib.hid (own_step HOW1.out HBE.out)
             have t0 := ((bcell HBE.out).1 _ _ (show w.heap.size < wd.heap.size by omega)).trans s0
             have t1 := ((bcell HBE.out).1 _ _ (show w.heap.size < wd.heap.size by omega)).trans s1
             have t2 := ((bcell HBE.out).1 _ _ (show w.heap.size < wd.heap.size by omega)).trans s2
             have t3 := ((bcell HBE.out).1 _ _ (show w.heap.size < wd.heap.size by omega)).trans s3
             have t4 := ((bcell HBE.out).1 _ _ (show w.heap.size < wd.heap.size by omega)).trans s4
             have HF : Hid (some w.heap.size ≠ u4.ownBlock) := Lib.hid (fun e => by have := (HOW2.out.lt _ e.symm).1; omega)
             clear hbe)
          | (refine step_append_lies _ (by rfl) _ _ _ (by rfl) (w.heap.size + 1) 80 i0 _ 4 32 Try.underlying66 HI0.out HZ0.out HZ1.out HZ2.out rfl (by omega) u4 (k) _ (by rfl) (HOW2.out.alloc _) ⟨we.heap.size, 0, none⟩ 1 1 (Part.cells ⟨x, q, 10000 * (r : Int) + 1, false⟩) (by rfl) (by rfl) (World.news_of_block (cs := (Part.cells ⟨x, q, 10000 * (r : Int) + 1, false⟩).toArray) (t := 80) (fr := (0, 0)) (heap_alloc_new we _)) (pt_one _) (by omega) (by unfold maxLen; omega) (by omega) (by simp; omega) (we.heap.size + 1) (by simp) ?_; intro gg cap w4 hown4 hgrow hat hlt4))
      have HOW4 := Lib.hid hown4
      have HG4 := Lib.hid hgrow
      clear hown4 hgrow hat
      go_wp2
      go_roundw
      case rel =>
        have hb := HB.out
        have hbd := HBD.out
        have hbe := HBE.out
        have hbl : Below w.heap.size w we := (by repeat (first | with_reducible exact Below.refl _ _ | with_reducible assumption | with_reducible refine Below.drew ?_ | with_reducible refine Below.drewN ?_ _ | with_reducible refine Below.alloc2 ?_ _ | with_reducible refine Below.alloc ?_ (by first | omega | (simp <;> omega)) _ | with_reducible refine Below.setCell ?_ (by first | omega | (simp <;> omega)) _ | with_reducible refine Below.step2 (by with_reducible assumption) ?_ | with_reducible refine Below.step (by with_reducible assumption) ?_ (by first | omega | (simp <;> omega))))
        refine ⟨k + 1, by omega, by go_num, ?_, (HG4.out.block _ (by simp; omega) HF.out).trans (((HBK.out.below HBD.out og).below HBE.out (by omega)).alloc _), (hbl.alloc hbl.size _).grown HG4.out (by simp; omega) (fun g hg => by have := (HOW2.out.lt _ hg).1; omega)⟩
        have := HOW4.out
        rw [HMT.out, ptcells_append, HEQ.out]
        simpa [ptcells] using this
      case measure => simp [intOf]; omega
    · have e : n = k := by omega
      subst e
      have HOWI : Hid (wr.ownsRow (w.heap.size + 1) 80 4 u4 (n + 0) (ptcells (s.bays.map s.bay ++ (s.boards.take 0).map s.brd))) := Lib.hid (by
        have := HOWN.out
        rw [List.take_of_length_le (by rw [HLA.out]; exact Nat.le_refl _)] at this
        simpa using this)
      have HBI := HB
      have HKI := HBK
      clear hown hbk hb HOWN HB HBK
      go_wp2
      go_loopw [4, 36] (fun v i wr => ∃ k : Nat, k ≤ n2 ∧ i = .int .i64 k ∧ wr.ownsRow (w.heap.size + 1) 80 4 v (n + k) (ptcells (s.bays.map s.bay ++ (s.boards.take k).map s.brd)) ∧ Bk wr w.heap.size 24 #[.slice A n c, .slice A2 n2 c2, .int .i64 s.width, .int .i64 s.gap, .int .i64 s.lift] ∧ Below w.heap.size w wr) (fun _ i _ => n2 - (intOf i).toNat)
      case atStart => exact ⟨0, Nat.zero_le _, rfl, HOWI.out, HKI.out, HBI.out⟩
      case round =>
        obtain ⟨k, hk, rfl, hown, hbk, hb⟩ := hrel
        have HB := Lib.hid hb
        have HOWN := Lib.hid hown
        have HBK := Lib.hid hbk
        obtain ⟨⟨a0, a1, a2, a3, a4⟩, -⟩ := hbk.five
        have ow := hb.size
        have og := hbk.lt
        by_cases hlt : k < n2
        · obtain ⟨b, o, x, rfl, hbb, hx, d0⟩ := (H.out _ hb).b.nums.at_ hlt
          have hxa : x ∈ s.all := List.mem_append_right _ (List.mem_of_getElem? hx)
          have hub := HOK.out.units hxa
          have HMT := Lib.hid (map_take (s.brd) hx)
          have HX := Lib.hid hx
          obtain ⟨u1, u2⟩ := hub
          have hquo : IntKind.i64.wrap (x.tdiv s.unit) = x.tdiv s.unit := IntWalk.i64_in _ (by omega)
          have ob : b < wr.heap.size := by omega
          clear hx hb hown hbk hbb hxa
          have HEQ : Hid (s.brd x = ⟨x, x.tdiv s.unit, 10000 * (1 + (odds s.reg [] : Int)) + 0, true⟩) := Lib.hid (brd_eq _ _)
          have hq2 : odds s.reg [] ≤ 1 := Nat.le_trans (odds_le _ _) (by simp)
          generalize hqd : x.tdiv s.unit = q at *
          generalize hql : odds s.reg [] = r at *
          have HQL := Lib.hid hql
          clear hql
          go_wp2
          go_region_held3 (fun w' => w'.cell? ⟨w.heap.size, 0, none⟩ = some (.slice A n c) ∧ w'.cell? ⟨w.heap.size, 1, none⟩ = some (.slice (some ⟨b, o, none⟩) n2 c2) ∧ w'.cell? ⟨w.heap.size, 2, none⟩ = some (.int .i64 s.width) ∧ w'.cell? ⟨w.heap.size, 3, none⟩ = some (.int .i64 s.gap) ∧ w'.cell? ⟨w.heap.size, 4, none⟩ = some (.int .i64 s.lift))
            (first
              | go_keep
              | (refine ⟨?_, ?_, ?_, ?_, ?_⟩
                 · (rw [hgrow.cell_far _ (by simp; omega) HF.out, World.cell?_alloc_lt _ _ _ (by show w.heap.size < _; omega)]; assumption)
                 · (rw [hgrow.cell_far _ (by simp; omega) HF.out, World.cell?_alloc_lt _ _ _ (by show w.heap.size < _; omega)]; assumption)
                 · (rw [hgrow.cell_far _ (by simp; omega) HF.out, World.cell?_alloc_lt _ _ _ (by show w.heap.size < _; omega)]; assumption)
                 · (rw [hgrow.cell_far _ (by simp; omega) HF.out, World.cell?_alloc_lt _ _ _ (by show w.heap.size < _; omega)]; assumption)
                 · (rw [hgrow.cell_far _ (by simp; omega) HF.out, World.cell?_alloc_lt _ _ _ (by show w.heap.size < _; omega)]; assumption)))
            (first
              | (go_at_call 39; refine (costOf_any _ _ _ _ _ _ _ _ (HS.out _ (by have hb0 := HB.out; exact (by repeat (first | with_reducible exact Below.refl _ _ | with_reducible assumption | with_reducible refine Below.drew ?_ | with_reducible refine Below.drewN ?_ _ | with_reducible refine Below.alloc2 ?_ _ | with_reducible refine Below.alloc ?_ (by first | omega | (simp <;> omega)) _ | with_reducible refine Below.setCell ?_ (by first | omega | (simp <;> omega)) _ | with_reducible refine Below.step2 (by with_reducible assumption) ?_ | with_reducible refine Below.step (by with_reducible assumption) ?_ (by first | omega | (simp <;> omega)))))) _ _ _ _ _ _ [] [x] ⟨Ints.none_ _, Ints.one (by exact Bk.at_ (by simp))⟩ hn1 (by omega) (by omega)).mono ?_; rintro e wd ⟨hbd, rfl⟩; rw [HQL.out]; obtain ⟨hcd, -⟩ := bcell hbd; have hzd := hbd.size; simp at hzd
                 have HBD : Hid (Below wr.heap.size wr wd) := Lib.hid (by exact (by repeat (first | with_reducible exact Below.refl _ _ | with_reducible assumption | with_reducible refine Below.drew ?_ | with_reducible refine Below.drewN ?_ _ | with_reducible refine Below.alloc2 ?_ _ | with_reducible refine Below.alloc ?_ (by first | omega | (simp <;> omega)) _ | with_reducible refine Below.setCell ?_ (by first | omega | (simp <;> omega)) _ | with_reducible refine Below.step2 (by with_reducible assumption) ?_ | with_reducible refine Below.step (by with_reducible assumption) ?_ (by first | omega | (simp <;> omega)))))
                 have HOW1 := Lib.hid (own_step HOWN.out HBD.out)
                 have s0 := ((bcell HBD.out).1 _ _ og).trans a0
                 have s1 := ((bcell HBD.out).1 _ _ og).trans a1
                 have s2 := ((bcell HBD.out).1 _ _ og).trans a2
                 have s3 := ((bcell HBD.out).1 _ _ og).trans a3
                 have s4 := ((bcell HBD.out).1 _ _ og).trans a4
                 clear hbd hcd)
              | (go_at_call 63; refine (code_any _ _ _ (by omega) (by omega)).mono ?_; rintro e we ⟨hbe, rfl⟩; have hze := hbe.size; (try simp at hze)
                 have HBE : Hid (Below wd.heap.size wd we) := Lib.hid (by exact (by repeat (first | with_reducible exact Below.refl _ _ | with_reducible assumption | with_reducible refine Below.drew ?_ | with_reducible refine Below.drewN ?_ _ | with_reducible refine Below.alloc2 ?_ _ | with_reducible refine Below.alloc ?_ (by first | omega | (simp <;> omega)) _ | with_reducible refine Below.setCell ?_ (by first | omega | (simp <;> omega)) _ | with_reducible refine Below.step2 (by with_reducible assumption) ?_ | with_reducible refine Below.step (by with_reducible assumption) ?_ (by first | omega | (simp <;> omega)))))
                 have HOW2 := Lib.hid (own_step HOW1.out HBE.out)
                 have t0 := ((bcell HBE.out).1 _ _ (show w.heap.size < wd.heap.size by omega)).trans s0
                 have t1 := ((bcell HBE.out).1 _ _ (show w.heap.size < wd.heap.size by omega)).trans s1
                 have t2 := ((bcell HBE.out).1 _ _ (show w.heap.size < wd.heap.size by omega)).trans s2
                 have t3 := ((bcell HBE.out).1 _ _ (show w.heap.size < wd.heap.size by omega)).trans s3
                 have t4 := ((bcell HBE.out).1 _ _ (show w.heap.size < wd.heap.size by omega)).trans s4
                 have HF : Hid (some w.heap.size ≠ u4.ownBlock) := Lib.hid (fun e => by have := (HOW2.out.lt _ e.symm).1; omega)
                 clear hbe)
              | (refine step_append_lies _ (by rfl) _ _ _ (by rfl) (w.heap.size + 1) 80 i0 _ 4 32 Try.underlying66 HI0.out HZ0.out HZ1.out HZ2.out rfl (by omega) u4 (n + k) _ (by rfl) (HOW2.out.alloc _) ⟨we.heap.size, 0, none⟩ 1 1 (Part.cells ⟨x, q, 10000 * (1 + (r : Int)) + 0, true⟩) (by rfl) (by rfl) (World.news_of_block (cs := (Part.cells ⟨x, q, 10000 * (1 + (r : Int)) + 0, true⟩).toArray) (t := 80) (fr := (0, 0)) (heap_alloc_new we _)) (pt_one _) (by omega) (by unfold maxLen; omega) (by omega) (by simp; omega) (we.heap.size + 1) (by simp) ?_; intro gg cap w4 hown4 hgrow hat hlt4))
          have HOW4 := Lib.hid hown4
          have HG4 := Lib.hid hgrow
          clear hown4 hgrow hat
          go_wp2
          go_roundw
          case rel =>
            have hb := HB.out
            have hbd := HBD.out
            have hbe := HBE.out
            have hbl : Below w.heap.size w we := (by repeat (first | with_reducible exact Below.refl _ _ | with_reducible assumption | with_reducible refine Below.drew ?_ | with_reducible refine Below.drewN ?_ _ | with_reducible refine Below.alloc2 ?_ _ | with_reducible refine Below.alloc ?_ (by first | omega | (simp <;> omega)) _ | with_reducible refine Below.setCell ?_ (by first | omega | (simp <;> omega)) _ | with_reducible refine Below.step2 (by with_reducible assumption) ?_ | with_reducible refine Below.step (by with_reducible assumption) ?_ (by first | omega | (simp <;> omega))))
            refine ⟨k + 1, by omega, by go_num, ?_, (HG4.out.block _ (by simp; omega) HF.out).trans (((HBK.out.below HBD.out og).below HBE.out (by omega)).alloc _), (hbl.alloc hbl.size _).grown HG4.out (by simp; omega) (fun g hg => by have := (HOW2.out.lt _ hg).1; omega)⟩
            have := HOW4.out
            rw [HMT.out, ← List.append_assoc, ptcells_append, HEQ.out, show n + (k + 1) = n + k + 1 from rfl]
            simpa [ptcells] using this
          case measure => simp [intOf]; omega
        · have e : n2 = k := by omega
          subst e
          clear hown hbk hb
          go_wp2
          go_ret
          refine ⟨HB.out, _, rfl, ?_⟩
          have := HOWN.out
          rw [List.take_of_length_le (by rw [HLB.out]; exact Nat.le_refl _)] at this
          exact this

end Go.Proofs.Ytkcbfkflkepfeaa
