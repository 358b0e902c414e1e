/- Chapter 6, walks: Extensions of the reference. -/
import Derived.Test.YtgljncfijcamhaaGreatDoorJack6
namespace Go.Proofs.YtgljncfijcamhaaGreatDoor
open Go.RowKit

theorem info_int6 : (Tryz.prog.info? 3).map (fun i => (i.zero, i.size, i.bytes)) = some (some (.int .i64 0), 1, 8) := by kernel_rfl
def exts (D so : Int) (hs : List Int) : List Int := hs.map (fun h => D - h - so)
theorem exts_len (D so : Int) (hs : List Int) : (exts D so hs).length = hs.length := by simp [exts]
theorem exts_step {D so x : Int} {hs : List Int} {k : Nat} (hx : hs[k]? = some x) : exts D so (hs.take (k + 1)) = exts D so (hs.take k) ++ [D - x - so] := by
  rw [List.take_add_one, hx]; simp [exts]
theorem allIn_snoc2 (lo hi x : Int) (l : List Int) : allIn lo hi (l ++ [x]) = (allIn lo hi l && inR lo hi x) := by
  simp [allIn, inR]
theorem Nums.of_own {w : World} {base t n : Nat} {v : Value} {l : List Int} (h : w.ownsRow base t 1 v n (i64s l)) : ∃ A c, v = .slice A n c ∧ Nums w w.heap.size A n c l := by
  obtain ⟨A, c, rfl, hs, -⟩ := Sl.of_own h
  exact ⟨A, c, rfl, ⟨hs⟩⟩
set_option maxRecDepth 100000 in
set_option maxHeartbeats 8000000 in
theorem refExt_any (A : Option Addr) (n c : Nat) (hs : List Int) (lo hi so D : Int) (w : World) (hh : Nums w w.heap.size A n c hs) (hn : n ≤ 60) (bh : allIn (-1000000) 1000000 hs = true) (hso : 0 ≤ so ∧ so ≤ 10000) (hD : -4000000 ≤ D ∧ D ≤ 4000000) :
    Calls Tryz.prog 25 #[.slice A n c, .agg #[.int .i64 lo, .int .i64 hi, .int .i64 so], .int .i64 D] w fun e w' => Below w.heap.size w w' ∧ ∃ A' c', e = .returned (.tuple #[.slice A' n c', .bool (allIn lo hi (exts D so hs))]) ∧ Nums w' w'.heap.size A' n c' (exts D so hs) := by
  have hcap := hh.cap
  have hmax := hh.max
  have HLEN := Lib.hid hh.len
  have HBH := Lib.hid bh
  have H : Hid (∀ w', Below w.heap.size w w' → Nums w' w.heap.size A n c hs) := fun w' hb => hh.below hb (Nat.le_refl _) (Nat.le_refl _)
  obtain ⟨i0, hi0, hz0, hz1, hz2⟩ := info_parts info_int6
  have HI0 := Lib.hid hi0
  have HZ0 := Lib.hid hz0
  have HZ1 := Lib.hid hz1
  have HZ2 := Lib.hid hz2
  clear hi0 hz0 hz1 hz2 hh bh
  go_enter Tryz.func25, Tryz.ntmps25
  go_wp2
  go_loopw [8, 9, 10, 11] (fun ob v x _ wr => ∃ k : Nat, k ≤ n ∧ x = .int .i64 k ∧ ob = .bool (allIn lo hi (exts D so (hs.take k))) ∧ wr.ownsRow (w.heap.size + 1) 3 1 v k (i64s (exts D so (hs.take k))) ∧ Bk wr w.heap.size 52 #[.int .i64 lo, .int .i64 hi, .int .i64 so] ∧ Below w.heap.size w wr) (fun _ _ x _ _ => n - (intOf x).toNat)
  case atStart => exact ⟨0, Nat.zero_le _, rfl, rfl, World.ownsRow_nil _ _ _ _, (by repeat (first | with_reducible assumption | with_reducible exact Bk.at_ (by first | (simp; done) | omega) | with_reducible refine Bk.alloc ?_ _ | with_reducible refine Bk.drew ?_ | with_reducible refine Bk.drewN ?_ _ | with_reducible refine Bk.step (by with_reducible assumption) ?_ (by first | omega | (simp <;> omega)))), (by repeat (first | with_reducible exact Below.refl _ _ | with_reducible assumption | with_reducible refine Below.drew ?_ | with_reducible refine Below.drewN ?_ _ | with_reducible refine Below.alloc2 ?_ _ | with_reducible refine Below.alloc ?_ (by first | omega | (simp <;> omega)) _ | with_reducible refine Below.setCell ?_ (by first | omega | (simp <;> omega)) _ | with_reducible refine Below.step2 (by with_reducible assumption) ?_ | with_reducible refine Below.step (by with_reducible assumption) ?_ (by first | omega | (simp <;> omega))))⟩
  case round =>
    obtain ⟨k, hk, rfl, rfl, hown, hbk, hb⟩ := hrel
    have HB := Lib.hid hb
    have HOWN := Lib.hid hown
    have HBK := Lib.hid hbk
    obtain ⟨⟨p0, p1, p2⟩, -⟩ := hbk.three
    have ow := hb.size
    have og := hbk.lt
    obtain ⟨bo, hbo⟩ : ∃ b, allIn lo hi (exts D so (hs.take k)) = b := ⟨_, rfl⟩
    have HP := Lib.hid hbo
    rw [hbo]
    clear hown hbk hbo
    by_cases hlt : k < n
    · obtain ⟨b, o, x, rfl, hbb, hx, c0⟩ := (H.out _ hb).at_ hlt
      have HE := Lib.hid (exts_step (D := D) (so := so) hx)
      have hxb : -1000000 ≤ x ∧ x ≤ 1000000 := by simpa using List.all_eq_true.1 HBH.out x (List.mem_of_getElem? hx)
      obtain ⟨T, hT⟩ : ∃ T, D - x - so = T := ⟨_, rfl⟩
      rw [hT] at HE
      have hw1 : IntKind.i64.wrap (D - x) = D - x := IntWalk.i64_in _ (by omega)
      have hw2 : IntKind.i64.wrap (D - x - so) = T := by rw [hT]; exact IntWalk.i64_in _ (by omega)
      obtain ⟨bq, hbq⟩ : ∃ b, inR lo hi T = b := ⟨_, rfl⟩
      have HQ := Lib.hid hbq
      have E1 := Lib.hid (within_b hbq)
      clear hb hx hT hxb hbq
      cases bo
      · go_wp2
        go_quiet (fail)
        go_wp2_with (at_builtin; refine wpList_append_own_at _ rfl _ _ _ rfl (w.heap.size + 1) 3 i0 _ 1 8 Tryz.underlying22 HI0.out HZ0.out HZ1.out HZ2.out rfl (by omega) _ _ _ rfl (HOWN.out.alloc _) ⟨wr.heap.size, 0, none⟩ 1 1 [.int .i64 T] rfl rfl (World.news_of_block (cs := #[.int .i64 T]) (t := 3) (fr := (0, 0)) (heap_alloc_new wr _)) (by intro u hu; simp at hu; subst hu; rfl) (by unfold maxLen; omega) (by omega) (by simp; omega) ?_; intro v1 w1 hown1 hg1 _ _; have hbk1 : Bk w1 w.heap.size 52 #[.int .i64 lo, .int .i64 hi, .int .i64 so] := (hg1.block _ (by simp; omega) (fun e => by have := (HOWN.out.lt _ e.symm).1; omega)).trans ((HBK.out.drewN _).alloc _); obtain ⟨⟨q0, q1, q2⟩, -⟩ := hbk1.three; have HO1 := Lib.hid hown1; have HG1 := Lib.hid hg1; have HBK1 := Lib.hid hbk1; clear hown1 hg1 hbk1)
        go_roundw
        case rel =>
          have hb0 := HB.out
          refine ⟨k + 1, by omega, by go_num, ?_, ?_, HBK1.out, ?_⟩
          · exact congrArg Value.bool (by rw [HE.out, allIn_snoc2, HP.out, HQ.out]; rfl)
          · have := HO1.out
            rw [HE.out]
            simpa [i64s] using this
          · have hbl : Below w.heap.size w (wr.drewN nq) := (by repeat (first | with_reducible exact Below.refl _ _ | with_reducible assumption | with_reducible refine Below.drew ?_ | with_reducible refine Below.drewN ?_ _ | with_reducible refine Below.alloc2 ?_ _ | with_reducible refine Below.alloc ?_ (by first | omega | (simp <;> omega)) _ | with_reducible refine Below.setCell ?_ (by first | omega | (simp <;> omega)) _ | with_reducible refine Below.step2 (by with_reducible assumption) ?_ | with_reducible refine Below.step (by with_reducible assumption) ?_ (by first | omega | (simp <;> omega))))
            exact (Below.alloc hbl hbl.size _).grown HG1.out (by simp; omega) (fun q hq => by have := (HOWN.out.lt _ hq).1; omega)
        case measure => (simp [intOf]; omega)
      · go_wp2
        go_quiet (fail)
        go_wp2_with (first
            | (at_builtin; refine wpList_append_own_at _ rfl _ _ _ rfl (w.heap.size + 1) 3 i0 _ 1 8 Tryz.underlying22 HI0.out HZ0.out HZ1.out HZ2.out rfl (by omega) _ _ _ rfl (HOWN.out.alloc _) ⟨wr.heap.size, 0, none⟩ 1 1 [.int .i64 T] rfl rfl (World.news_of_block (cs := #[.int .i64 T]) (t := 3) (fr := (0, 0)) (heap_alloc_new wr _)) (by intro u hu; simp at hu; subst hu; rfl) (by unfold maxLen; omega) (by omega) (by simp; omega) ?_; intro v1 w1 hown1 hg1 _ _; have hbk1 : Bk w1 w.heap.size 52 #[.int .i64 lo, .int .i64 hi, .int .i64 so] := (hg1.block _ (by simp; omega) (fun e => by have := (HOWN.out.lt _ e.symm).1; omega)).trans ((HBK.out.drewN _).alloc _); obtain ⟨⟨q0, q1, q2⟩, -⟩ := hbk1.three; have HO1 := Lib.hid hown1; have HG1 := Lib.hid hg1; have HBK1 := Lib.hid hbk1; clear hown1 hg1 hbk1)
            | (go_at_call 24; with_reducible refine (E1.out _).mono ?_; rintro e w' ⟨rfl, rfl⟩))
        go_roundw
        case rel =>
          have hb0 := HB.out
          refine ⟨k + 1, by omega, by go_num, ?_, ?_, HBK1.out, ?_⟩
          · exact congrArg Value.bool (by rw [HE.out, allIn_snoc2, HP.out, HQ.out]; rfl)
          · have := HO1.out
            rw [HE.out]
            simpa [i64s] using this
          · have hbl : Below w.heap.size w (wr.drewN nq) := (by repeat (first | with_reducible exact Below.refl _ _ | with_reducible assumption | with_reducible refine Below.drew ?_ | with_reducible refine Below.drewN ?_ _ | with_reducible refine Below.alloc2 ?_ _ | with_reducible refine Below.alloc ?_ (by first | omega | (simp <;> omega)) _ | with_reducible refine Below.setCell ?_ (by first | omega | (simp <;> omega)) _ | with_reducible refine Below.step2 (by with_reducible assumption) ?_ | with_reducible refine Below.step (by with_reducible assumption) ?_ (by first | omega | (simp <;> omega))))
            exact (Below.alloc hbl hbl.size _).grown HG1.out (by simp; omega) (fun q hq => by have := (HOWN.out.lt _ hq).1; omega)
        case measure => (simp [intOf]; omega)
    · obtain rfl : k = n := by omega
      clear hb
      have HX : Hid (hs.take k = hs) := Lib.hid (List.take_of_length_le (by rw [HLEN.out]; exact Nat.le_refl _))
      obtain ⟨A', c', rfl, hs'⟩ := Nums.of_own HOWN.out
      have HS := Lib.hid hs'
      clear hs'
      go_wp2
      refine bodyPost_ret (results_tmp2 rfl _ _ _) rfl ?_
      refine ⟨HB.out, A', c', ?_, ?_⟩
      · rw [← HP.out, HX.out]
        rfl
      · have := HS.out
        rwa [HX.out] at this

end Go.Proofs.YtgljncfijcamhaaGreatDoor
