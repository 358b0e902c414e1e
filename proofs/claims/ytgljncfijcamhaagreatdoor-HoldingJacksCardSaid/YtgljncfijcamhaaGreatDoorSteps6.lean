/- Chapter 6, walks: stepsUnder. -/
import Derived.Test.YtgljncfijcamhaaGreatDoorHts6
import Derived.Deep.DeepCutAuto
namespace Go.Proofs.YtgljncfijcamhaaGreatDoor
open Go.RowKit

def stTo (l : List Gr) (a : List Int) : Nat → Option (List Gr)
  | 0 => some []
  | k + 1 => (stTo l a k).bind fun gs => ((stepIx (a.getD k 0) l).map fun j => l.getD j ⟨0, 0, 0, 0⟩).map fun g => gs ++ [g]
def sts (l : List Gr) (a : List Int) : Option (List Gr) := stTo l a a.length
theorem htsTo_st (l : List Gr) (a : List Int) : ∀ k, htsTo l a k = (stTo l a k).map (List.map (·.c))
  | 0 => rfl
  | k + 1 => by
    simp only [htsTo, stTo, hAt]
    rw [htsTo_st l a k]
    cases stTo l a k with
    | none => rfl
    | some gs => cases stepIx (a.getD k 0) l with
      | none => rfl
      | some j => simp
theorem hts_st (l : List Gr) (a : List Int) : hts l a = (sts l a).map (List.map (·.c)) := htsTo_st l a _
theorem stTo_none {l : List Gr} {a : List Int} {k : Nat} (h : stTo l a k = none) : ∀ {m : Nat}, k ≤ m → stTo l a m = none := by
  intro m hm
  induction m with
  | zero => obtain rfl : k = 0 := by omega
            exact h
  | succ m ih =>
    rcases Nat.lt_or_ge m k with h1 | h1
    · obtain rfl : k = m + 1 := by omega
      exact h
    · simp only [stTo]; rw [ih h1]; rfl
theorem stTo_miss {l : List Gr} {a : List Int} {gs : List Gr} {k : Nat} {x : Int} (hx : a[k]? = some x) (h : stTo l a k = some gs) (h1 : stepIx x l = none) : sts l a = none := by
  have hk := (List.getElem?_eq_some_iff.1 hx).1
  have h2 : stTo l a (k + 1) = none := by
    simp only [stTo]; rw [h]
    simp [List.getD_eq_getElem?_getD, hx, h1]
  exact stTo_none h2 hk
theorem stTo_next {l : List Gr} {a : List Int} {gs : List Gr} {k j : Nat} {x : Int} {g : Gr} (hx : a[k]? = some x) (h : stTo l a k = some gs) (h1 : stepIx x l = some j) (hg : l[j]? = some g) : stTo l a (k + 1) = some (gs ++ [g]) := by
  simp only [stTo]; rw [h]
  simp [List.getD_eq_getElem?_getD, hx, h1, hg]
theorem info_gr6 : (Tryz.prog.info? 115).map (fun i => (i.zero, i.size, i.bytes)) = some (some (.agg #[.int .i64 0, .int .i64 0, .int .i64 0, .int .i64 0]), 4, 32) := by kernel_rfl
theorem Grs.of_own {w : World} {base t n : Nat} {v : Value} {l : List Gr} (h : w.ownsRow base t 4 v n (gcells l)) : ∃ A c, v = .slice A n c ∧ Grs w w.heap.size A n c l := by
  obtain ⟨A, c, rfl, hs, -⟩ := Sl.of_own h
  exact ⟨A, c, rfl, ⟨hs⟩⟩
set_option maxRecDepth 100000 in
set_option maxHeartbeats 8000000 in
theorem stepsUnder_any (f : Int) (A A2 T : Option Addr) (n c m c2 k0 ct : Nat) (a : List Int) (l : List Gr) (w : World) (ha : Nums w w.heap.size A n c a) (hl : Grs w w.heap.size T k0 ct l) (hn : n ≤ 60) :
    Calls Tryz.prog 70 #[.agg #[.int .i64 f, .slice A n c, .slice A2 m c2], .slice T k0 ct] w fun e w' => Below w.heap.size w w' ∧ ((sts l a = none ∧ e = .returned (.tuple #[.slice none 0 0, .int .i64 6])) ∨ ∃ gs A' c', sts l a = some gs ∧ e = .returned (.tuple #[.slice A' n c', .int .i64 0]) ∧ Grs w' w'.heap.size A' n c' gs) := by
  have hcap := ha.cap
  have hmax := ha.max
  have hcapl := hl.cap
  have hmaxl := hl.max
  have HLEN := Lib.hid ha.len
  have HLEL := Lib.hid hl.len
  have HA : Hid (∀ w', Below w.heap.size w w' → Nums w' w.heap.size A n c a) := fun w' hb => ha.below hb (Nat.le_refl _) (Nat.le_refl _)
  have HL : Hid (∀ w', Below w.heap.size w w' → Grs w' w'.heap.size T k0 ct l) := fun w' hb => hl.below hb (Nat.le_refl _) hb.size
  obtain ⟨i0, hi0, hz0, hz1, hz2⟩ := info_parts info_gr6
  have HI0 := Lib.hid hi0
  have HZ0 := Lib.hid hz0
  have HZ1 := Lib.hid hz1
  have HZ2 := Lib.hid hz2
  clear hi0 hz0 hz1 hz2 ha hl
  go_enter Tryz.func70, Tryz.ntmps70
  go_wp2
  go_loopw [6, 8, 9, 10, 14] (fun v _ _ _ x wr => ∃ k : Nat, k ≤ n ∧ x = .int .i64 k ∧ (∃ gs, Hid (stTo l a k = some gs) ∧ wr.ownsRow (w.heap.size + 1) 115 4 v k (gcells gs)) ∧ Below w.heap.size w wr) (fun _ _ _ _ x _ => n - (intOf x).toNat)
  case atStart => exact ⟨0, Nat.zero_le _, rfl, ⟨[], Lib.hid rfl, World.ownsRow_nil _ _ _ _⟩, (by repeat (first | with_reducible exact Below.refl _ _ | with_reducible assumption | with_reducible refine Below.drew ?_ | with_reducible refine Below.drewN ?_ _ | with_reducible refine Below.alloc2 ?_ _ | with_reducible refine Below.alloc ?_ (by first | omega | (simp <;> omega)) _ | with_reducible refine Below.setCell ?_ (by first | omega | (simp <;> omega)) _ | with_reducible refine Below.step2 (by with_reducible assumption) ?_ | with_reducible refine Below.step (by with_reducible assumption) ?_ (by first | omega | (simp <;> omega))))⟩
  case round =>
    obtain ⟨k, hk, rfl, ⟨gs, HP, hown⟩, hb⟩ := hrel
    have HB := Lib.hid hb
    have HOWN := Lib.hid hown
    have ow := hb.size
    clear hown
    by_cases hlt : k < n
    · obtain ⟨b, o, x, rfl, hbb, hx, c0⟩ := (HA.out _ hb).at_ hlt
      have HX := Lib.hid hx
      have c5 := stepAt_any T k0 ct l x wr (HL.out wr hb)
      cases hix : stepIx x l with
      | none =>
        have HI := Lib.hid hix
        rw [stepRes_none hix] at c5
        obtain ⟨xa, xb, xc, xd, hz⟩ : ∃ xa xb xc xd : Int, grV ⟨0, 0, 0, 0⟩ = .agg #[.int .i64 xa, .int .i64 xb, .int .i64 xc, .int .i64 xd] := ⟨0, 0, 0, 0, rfl⟩
        dsimp only at c5
        rw [hz] at c5
        have C5 := Lib.hid c5
        clear hb hx hix c5 hz
        go_upto_region 5 with (fail)
        go_cut [9, 10] (fun P vb wx => vb = .bool false ∧ ∃ gg, P = .pointer (some ⟨gg, 0, none⟩) ∧ Bk wx gg 115 #[.int .i64 xa, .int .i64 xb, .int .i64 xc, .int .i64 xd] ∧ Below wr.heap.size wr wx)
        case first =>
          go_wp2_with (go_at_call 106; with_reducible refine C5.out.mono ?_; rintro e w1 ⟨hb1, rfl⟩)
          go_meet
          exact ⟨rfl, _, rfl, (by repeat (first | with_reducible assumption | with_reducible exact Bk.at_ (by first | (simp; done) | omega) | with_reducible refine Bk.alloc ?_ _ | with_reducible refine Bk.drew ?_ | with_reducible refine Bk.drewN ?_ _ | with_reducible refine Bk.step (by with_reducible assumption) ?_ (by first | omega | (simp <;> omega)))), (by repeat (first | with_reducible exact Below.refl _ _ | with_reducible assumption | with_reducible refine Below.drew ?_ | with_reducible refine Below.drewN ?_ _ | with_reducible refine Below.alloc2 ?_ _ | with_reducible refine Below.alloc ?_ (by first | omega | (simp <;> omega)) _ | with_reducible refine Below.setCell ?_ (by first | omega | (simp <;> omega)) _ | with_reducible refine Below.step2 (by with_reducible assumption) ?_ | with_reducible refine Below.step (by with_reducible assumption) ?_ (by first | omega | (simp <;> omega))))⟩
        case rest =>
          obtain ⟨rfl, gg, rfl, kb, hb5⟩ := hcut
          have hb9 := HB.out.trans (hb5.mono HB.out.size)
          have HB9 := Lib.hid hb9
          clear kb hb5 hb9
          go_wp2
          refine bodyPost_ret (results_tmp2 rfl _ _ _) rfl ?_
          exact ⟨HB9.out, .inl ⟨stTo_miss HX.out HP.out HI.out, rfl⟩⟩
      | some j =>
        have hj : j < k0 := by have := stepIx_lt hix; rw [HLEL.out] at this; exact this
        obtain ⟨b2, o2, ⟨xa, xb, xc, xd⟩, -, -, hx2, -⟩ := (HL.out _ hb).at_ hj
        have HE := Lib.hid (stTo_next hx HP.out hix hx2)
        rw [stepRes_some hx2 hix] at c5
        have C5 : Hid (Calls Tryz.prog 106 #[.slice T k0 ct, .int .i64 x] wr fun e w' => Below wr.heap.size wr w' ∧ e = .returned (.tuple #[.agg #[.int .i64 xa, .int .i64 xb, .int .i64 xc, .int .i64 xd], .bool true])) := Lib.hid c5
        clear hb hx hix hx2 c5
        go_upto_region 5 with (fail)
        go_cut [9, 10] (fun P vb wx => vb = .bool true ∧ ∃ gg, P = .pointer (some ⟨gg, 0, none⟩) ∧ Bk wx gg 115 #[.int .i64 xa, .int .i64 xb, .int .i64 xc, .int .i64 xd] ∧ Below wr.heap.size wr wx)
        case first =>
          go_wp2_with (go_at_call 106; with_reducible refine C5.out.mono ?_; rintro e w1 ⟨hb1, rfl⟩)
          go_meet
          exact ⟨rfl, _, rfl, (by repeat (first | with_reducible assumption | with_reducible exact Bk.at_ (by first | (simp; done) | omega) | with_reducible refine Bk.alloc ?_ _ | with_reducible refine Bk.drew ?_ | with_reducible refine Bk.drewN ?_ _ | with_reducible refine Bk.step (by with_reducible assumption) ?_ (by first | omega | (simp <;> omega)))), (by repeat (first | with_reducible exact Below.refl _ _ | with_reducible assumption | with_reducible refine Below.drew ?_ | with_reducible refine Below.drewN ?_ _ | with_reducible refine Below.alloc2 ?_ _ | with_reducible refine Below.alloc ?_ (by first | omega | (simp <;> omega)) _ | with_reducible refine Below.setCell ?_ (by first | omega | (simp <;> omega)) _ | with_reducible refine Below.step2 (by with_reducible assumption) ?_ | with_reducible refine Below.step (by with_reducible assumption) ?_ (by first | omega | (simp <;> omega))))⟩
        case rest =>
          obtain ⟨rfl, gg, rfl, kb, hb5⟩ := hcut
          obtain ⟨q0, q1, q2, q3⟩ := kb.fourc
          have hb9 := HB.out.trans (hb5.mono HB.out.size)
          have ow5 := hb9.size
          have og := kb.lt
          have HB9 := Lib.hid hb9
          have HOWN5 := Lib.hid (own_step HOWN.out hb5)
          clear kb hb5 hb9
          go_wp2_with (at_builtin; refine wpList_append_own_at _ rfl _ _ _ rfl (w.heap.size + 1) 115 i0 _ 4 32 Tryz.underlying50 HI0.out HZ0.out HZ1.out HZ2.out rfl (by omega) _ _ _ rfl (HOWN5.out.alloc _) ⟨wc.heap.size, 0, none⟩ 1 1 [.int .i64 xa, .int .i64 xb, .int .i64 xc, .int .i64 xd] rfl rfl (World.news_of_block (cs := #[.int .i64 xa, .int .i64 xb, .int .i64 xc, .int .i64 xd]) (t := 115) (fr := (0, 0)) (heap_alloc_new wc _)) (by intro u hu; simp at hu; rcases hu with rfl | rfl | rfl | rfl <;> rfl) (by unfold maxLen; omega) (by omega) (by simp; omega) ?_; intro v1 w1 hown1 hg1 _ _; have HO1 := Lib.hid hown1; have HG1 := Lib.hid hg1; clear hown1 hg1)
          go_roundw
          case rel =>
            have hb0 := HB9.out
            refine ⟨k + 1, by omega, by go_num, ⟨_, HE, ?_⟩, ?_⟩
            · have := HO1.out
              rw [gcells_append]
              simpa [gcells] using this
            · exact (Below.alloc hb0 hb0.size _).grown HG1.out (by simp; omega) (fun q hq => by have := (HOWN5.out.lt _ hq).1; omega)
          case measure => (simp [intOf]; omega)
    · obtain rfl : k = n := by omega
      clear hb
      have HX : Hid (sts l a = some gs) := Lib.hid (by unfold sts; rw [HLEN.out]; exact HP.out)
      obtain ⟨A', c', rfl, hs'⟩ := Grs.of_own HOWN.out
      have HS := Lib.hid hs'
      clear hs'
      go_wp2
      refine bodyPost_ret (results_tmp2 rfl _ _ _) rfl ?_
      exact ⟨HB.out, .inr ⟨gs, A', c', HX.out, rfl, HS.out⟩⟩

end Go.Proofs.YtgljncfijcamhaaGreatDoor
