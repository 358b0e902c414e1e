/- Chapter 6, walks: soleTops of a valid input. -/
import Derived.Test.YtgljncfijcamhaaGreatDoorTops6
namespace Go.Proofs.YtgljncfijcamhaaGreatDoor
open Go.RowKit

set_option maxRecDepth 100000 in
set_option maxHeartbeats 8000000 in
theorem tops_ok (f : Int) (A A2 T : Option Addr) (n c m c2 k0 ct : Nat) (lo hi so : Int) (a : List Int) (l : List Gr) (w : World) (ha : Nums w w.heap.size A n c a) (hl : Grs w w.heap.size T k0 ct l) (hn : n ≤ 60) (hj : jackErr lo hi so = 0) (hgb : ∀ gs, sts l a = some gs → allIn (-1000000) 1000000 (gs.map (·.c)) = true)
    (c1 : ∀ w', Below w.heap.size w w' → Calls Tryz.prog 80 #[.agg #[.int .i64 f, .slice A n c, .slice A2 m c2]] w' fun e w'' => Below w'.heap.size w' w'' ∧ e = .returned (.int .i64 0))
    (c2' : ∀ w', Below w.heap.size w w' → Calls Tryz.prog 105 #[.slice T k0 ct] w' fun e w'' => Below w'.heap.size w' w'' ∧ e = .returned (.int .i64 0)) :
    Calls Tryz.prog 55 #[.agg #[.int .i64 f, .slice A n c, .slice A2 m c2], .slice T k0 ct, .agg #[.int .i64 lo, .int .i64 hi, .int .i64 so]] w fun e w' => Below w.heap.size w w' ∧ ((hts l a = none ∧ e = .returned (.tuple #[.slice none 0 0, .int .i64 6])) ∨ ∃ hs A' c', hts l a = some hs ∧ e = .returned (.tuple #[.slice A' n c', .int .i64 0]) ∧ Nums w' w'.heap.size A' n c' (tops so hs)) := by
  have C1 : Hid (∀ w', Below w.heap.size w w' → Calls Tryz.prog 68 #[.agg #[.int .i64 f, .slice A n c, .slice A2 m c2], .slice T k0 ct] w' fun e w'' => Below w'.heap.size w' w'' ∧ e = .returned (.int .i64 0)) := Lib.hid fun w' hb =>
    groundsErr_any f A A2 T n c m c2 k0 ct 0 0 w' (fun w'' hb' => c1 w'' (hb.trans (hb'.mono hb.size))) (fun w'' hb' => c2' w'' (hb.trans (hb'.mono hb.size)))
  have hcap := ha.cap
  have hmax := ha.max
  have HLEN := Lib.hid ha.len
  obtain ⟨b1, e1⟩ : ∃ v, (inR 0 10000 lo && (inR 0 10000 hi && inR 0 10000 so)) = v := ⟨_, rfl⟩
  have hj2 : (b1 && decide (lo ≤ hi)) = true := by
    unfold jackErr at hj
    rw [← e1, Bool.and_assoc, Bool.and_assoc]
    split at hj
    · assumption
    · cases hj
  simp only [Bool.and_eq_true, decide_eq_true_eq] at hj2
  obtain ⟨rfl, hle⟩ := hj2
  have E1 := Lib.hid e1
  have hso : 0 ≤ so ∧ so ≤ 10000 := by simp [inR] at e1; omega
  have hlt : ¬ hi < lo := by omega
  have C6 : Hid (∀ w', Below w.heap.size w w' → Calls Tryz.prog 70 #[.agg #[.int .i64 f, .slice A n c, .slice A2 m c2], .slice T k0 ct] w' fun e w'' => Below w'.heap.size w' w'' ∧ ((sts l a = none ∧ e = .returned (.tuple #[.slice none 0 0, .int .i64 6])) ∨ ∃ gs A' c', sts l a = some gs ∧ e = .returned (.tuple #[.slice A' n c', .int .i64 0]) ∧ Grs w'' w''.heap.size A' n c' gs)) := Lib.hid fun w' hb =>
    stepsUnder_any f A A2 T n c m c2 k0 ct a l w' (ha.below hb (Nat.le_refl _) hb.size) (hl.below hb (Nat.le_refl _) hb.size) hn
  rw [hts_st]
  clear hj e1 ha hl c1 c2' hle
  cases hst : sts l a with
  | none =>
    rw [hst] at C6
    clear hst hgb
    go_enter Tryz.func55, Tryz.ntmps55
    go_wp2_with (first
        | (go_at_call 68; with_reducible refine (C1.out _ ?_).mono ?_; (focus (exact (by repeat (first | with_reducible exact Below.refl _ _ | with_reducible assumption | with_reducible refine Below.drew ?_ | with_reducible refine Below.drewN ?_ _ | with_reducible refine Below.alloc2 ?_ _ | with_reducible refine Below.alloc ?_ (by first | omega | (simp <;> omega)) _ | with_reducible refine Below.setCell ?_ (by first | omega | (simp <;> omega)) _ | with_reducible refine Below.step2 (by with_reducible assumption) ?_ | with_reducible refine Below.step (by with_reducible assumption) ?_ (by first | omega | (simp <;> omega)))))); rintro e w1 ⟨hb1, rfl⟩; have kg : Bk w1 w.heap.size 24 #[.int .i64 f, .slice A n c, .slice A2 m c2] := (by repeat (first | with_reducible assumption | with_reducible exact Bk.at_ (by first | (simp; done) | omega) | with_reducible refine Bk.alloc ?_ _ | with_reducible refine Bk.drew ?_ | with_reducible refine Bk.drewN ?_ _ | with_reducible refine Bk.step (by with_reducible assumption) ?_ (by first | omega | (simp <;> omega)))); have kj : Bk w1 (w.heap.size + 1) 52 #[.int .i64 lo, .int .i64 hi, .int .i64 so] := (by repeat (first | with_reducible assumption | with_reducible exact Bk.at_ (by first | (simp; done) | omega) | with_reducible refine Bk.alloc ?_ _ | with_reducible refine Bk.drew ?_ | with_reducible refine Bk.drewN ?_ _ | with_reducible refine Bk.step (by with_reducible assumption) ?_ (by first | omega | (simp <;> omega)))); obtain ⟨⟨g0, g1, g2⟩, -⟩ := kg.three; obtain ⟨⟨j0, j1, j2⟩, -⟩ := kj.three; have oz1 := hb1.size; (try simp at oz1); have hbx : Below w.heap.size w w1 := (by repeat (first | with_reducible exact Below.refl _ _ | with_reducible assumption | with_reducible refine Below.drew ?_ | with_reducible refine Below.drewN ?_ _ | with_reducible refine Below.alloc2 ?_ _ | with_reducible refine Below.alloc ?_ (by first | omega | (simp <;> omega)) _ | with_reducible refine Below.setCell ?_ (by first | omega | (simp <;> omega)) _ | with_reducible refine Below.step2 (by with_reducible assumption) ?_ | with_reducible refine Below.step (by with_reducible assumption) ?_ (by first | omega | (simp <;> omega)))))
        | (go_at_call 56; with_reducible refine (areFrom_three 0 10000 lo hi so _ _ ?_ ?_ ?_ ?_ _ E1.out).mono ?_; (focus (simp; done)); (focus (simp; done)); (focus (simp; done)); (focus (simp; done)); rintro e w1 ⟨hb1, rfl⟩; have kg : Bk w1 w.heap.size 24 #[.int .i64 f, .slice A n c, .slice A2 m c2] := (by repeat (first | with_reducible assumption | with_reducible exact Bk.at_ (by first | (simp; done) | omega) | with_reducible refine Bk.alloc ?_ _ | with_reducible refine Bk.drew ?_ | with_reducible refine Bk.drewN ?_ _ | with_reducible refine Bk.step (by with_reducible assumption) ?_ (by first | omega | (simp <;> omega)))); have kj : Bk w1 (w.heap.size + 1) 52 #[.int .i64 lo, .int .i64 hi, .int .i64 so] := (by repeat (first | with_reducible assumption | with_reducible exact Bk.at_ (by first | (simp; done) | omega) | with_reducible refine Bk.alloc ?_ _ | with_reducible refine Bk.drew ?_ | with_reducible refine Bk.drewN ?_ _ | with_reducible refine Bk.step (by with_reducible assumption) ?_ (by first | omega | (simp <;> omega)))); obtain ⟨⟨g0, g1, g2⟩, -⟩ := kg.three; obtain ⟨⟨j0, j1, j2⟩, -⟩ := kj.three; have oz1 := hb1.size; (try simp at oz1); have hbx : Below w.heap.size w w1 := (by repeat (first | with_reducible exact Below.refl _ _ | with_reducible assumption | with_reducible refine Below.drew ?_ | with_reducible refine Below.drewN ?_ _ | with_reducible refine Below.alloc2 ?_ _ | with_reducible refine Below.alloc ?_ (by first | omega | (simp <;> omega)) _ | with_reducible refine Below.setCell ?_ (by first | omega | (simp <;> omega)) _ | with_reducible refine Below.step2 (by with_reducible assumption) ?_ | with_reducible refine Below.step (by with_reducible assumption) ?_ (by first | omega | (simp <;> omega)))))
        | (go_at_call 70; with_reducible refine (C6.out _ ?_).mono ?_; (focus (exact (by repeat (first | with_reducible exact Below.refl _ _ | with_reducible assumption | with_reducible refine Below.drew ?_ | with_reducible refine Below.drewN ?_ _ | with_reducible refine Below.alloc2 ?_ _ | with_reducible refine Below.alloc ?_ (by first | omega | (simp <;> omega)) _ | with_reducible refine Below.setCell ?_ (by first | omega | (simp <;> omega)) _ | with_reducible refine Below.step2 (by with_reducible assumption) ?_ | with_reducible refine Below.step (by with_reducible assumption) ?_ (by first | omega | (simp <;> omega)))))); (focus (rintro e w1 ⟨hb1, ⟨-, rfl⟩ | ⟨_, _, _, h, -⟩⟩; rotate_left; cases h)); have oz1 := hb1.size; (try simp at oz1)))
    refine bodyPost_ret (results_tmp2 rfl _ _ _) rfl ?_
    exact ⟨(by repeat (first | with_reducible exact Below.refl _ _ | with_reducible assumption | with_reducible refine Below.drew ?_ | with_reducible refine Below.drewN ?_ _ | with_reducible refine Below.alloc2 ?_ _ | with_reducible refine Below.alloc ?_ (by first | omega | (simp <;> omega)) _ | with_reducible refine Below.setCell ?_ (by first | omega | (simp <;> omega)) _ | with_reducible refine Below.step2 (by with_reducible assumption) ?_ | with_reducible refine Below.step (by with_reducible assumption) ?_ (by first | omega | (simp <;> omega)))), .inl ⟨rfl, rfl⟩⟩
  | some gs =>
    rw [hst] at C6
    have HGB := Lib.hid (hgb gs hst)
    have HSL : Hid (gs.length = n) := Lib.hid (by
      have h1 := hts_st l a
      rw [hst] at h1
      have := htsTo_len h1
      simpa [HLEN.out] using this)
    obtain ⟨i0, hi0, hz0, hz1, hz2⟩ := info_parts info_int6
    have HI0 := Lib.hid hi0
    have HZ0 := Lib.hid hz0
    have HZ1 := Lib.hid hz1
    have HZ2 := Lib.hid hz2
    clear hi0 hz0 hz1 hz2 hst hgb
    go_enter Tryz.func55, Tryz.ntmps55
    go_wp2_with (first
        | (go_at_call 68; with_reducible refine (C1.out _ ?_).mono ?_; (focus (exact (by repeat (first | with_reducible exact Below.refl _ _ | with_reducible assumption | with_reducible refine Below.drew ?_ | with_reducible refine Below.drewN ?_ _ | with_reducible refine Below.alloc2 ?_ _ | with_reducible refine Below.alloc ?_ (by first | omega | (simp <;> omega)) _ | with_reducible refine Below.setCell ?_ (by first | omega | (simp <;> omega)) _ | with_reducible refine Below.step2 (by with_reducible assumption) ?_ | with_reducible refine Below.step (by with_reducible assumption) ?_ (by first | omega | (simp <;> omega)))))); rintro e w1 ⟨hb1, rfl⟩; have kg : Bk w1 w.heap.size 24 #[.int .i64 f, .slice A n c, .slice A2 m c2] := (by repeat (first | with_reducible assumption | with_reducible exact Bk.at_ (by first | (simp; done) | omega) | with_reducible refine Bk.alloc ?_ _ | with_reducible refine Bk.drew ?_ | with_reducible refine Bk.drewN ?_ _ | with_reducible refine Bk.step (by with_reducible assumption) ?_ (by first | omega | (simp <;> omega)))); have kj : Bk w1 (w.heap.size + 1) 52 #[.int .i64 lo, .int .i64 hi, .int .i64 so] := (by repeat (first | with_reducible assumption | with_reducible exact Bk.at_ (by first | (simp; done) | omega) | with_reducible refine Bk.alloc ?_ _ | with_reducible refine Bk.drew ?_ | with_reducible refine Bk.drewN ?_ _ | with_reducible refine Bk.step (by with_reducible assumption) ?_ (by first | omega | (simp <;> omega)))); obtain ⟨⟨g0, g1, g2⟩, -⟩ := kg.three; obtain ⟨⟨j0, j1, j2⟩, -⟩ := kj.three; have oz1 := hb1.size; (try simp at oz1); have hbx : Below w.heap.size w w1 := (by repeat (first | with_reducible exact Below.refl _ _ | with_reducible assumption | with_reducible refine Below.drew ?_ | with_reducible refine Below.drewN ?_ _ | with_reducible refine Below.alloc2 ?_ _ | with_reducible refine Below.alloc ?_ (by first | omega | (simp <;> omega)) _ | with_reducible refine Below.setCell ?_ (by first | omega | (simp <;> omega)) _ | with_reducible refine Below.step2 (by with_reducible assumption) ?_ | with_reducible refine Below.step (by with_reducible assumption) ?_ (by first | omega | (simp <;> omega)))))
        | (go_at_call 56; with_reducible refine (areFrom_three 0 10000 lo hi so _ _ ?_ ?_ ?_ ?_ _ E1.out).mono ?_; (focus (simp; done)); (focus (simp; done)); (focus (simp; done)); (focus (simp; done)); rintro e w1 ⟨hb1, rfl⟩; have kg : Bk w1 w.heap.size 24 #[.int .i64 f, .slice A n c, .slice A2 m c2] := (by repeat (first | with_reducible assumption | with_reducible exact Bk.at_ (by first | (simp; done) | omega) | with_reducible refine Bk.alloc ?_ _ | with_reducible refine Bk.drew ?_ | with_reducible refine Bk.drewN ?_ _ | with_reducible refine Bk.step (by with_reducible assumption) ?_ (by first | omega | (simp <;> omega)))); have kj : Bk w1 (w.heap.size + 1) 52 #[.int .i64 lo, .int .i64 hi, .int .i64 so] := (by repeat (first | with_reducible assumption | with_reducible exact Bk.at_ (by first | (simp; done) | omega) | with_reducible refine Bk.alloc ?_ _ | with_reducible refine Bk.drew ?_ | with_reducible refine Bk.drewN ?_ _ | with_reducible refine Bk.step (by with_reducible assumption) ?_ (by first | omega | (simp <;> omega)))); obtain ⟨⟨g0, g1, g2⟩, -⟩ := kg.three; obtain ⟨⟨j0, j1, j2⟩, -⟩ := kj.three; have oz1 := hb1.size; (try simp at oz1); have hbx : Below w.heap.size w w1 := (by repeat (first | with_reducible exact Below.refl _ _ | with_reducible assumption | with_reducible refine Below.drew ?_ | with_reducible refine Below.drewN ?_ _ | with_reducible refine Below.alloc2 ?_ _ | with_reducible refine Below.alloc ?_ (by first | omega | (simp <;> omega)) _ | with_reducible refine Below.setCell ?_ (by first | omega | (simp <;> omega)) _ | with_reducible refine Below.step2 (by with_reducible assumption) ?_ | with_reducible refine Below.step (by with_reducible assumption) ?_ (by first | omega | (simp <;> omega)))))
        | (go_at_call 70; with_reducible refine (C6.out _ ?_).mono ?_; (focus (exact (by repeat (first | with_reducible exact Below.refl _ _ | with_reducible assumption | with_reducible refine Below.drew ?_ | with_reducible refine Below.drewN ?_ _ | with_reducible refine Below.alloc2 ?_ _ | with_reducible refine Below.alloc ?_ (by first | omega | (simp <;> omega)) _ | with_reducible refine Below.setCell ?_ (by first | omega | (simp <;> omega)) _ | with_reducible refine Below.step2 (by with_reducible assumption) ?_ | with_reducible refine Below.step (by with_reducible assumption) ?_ (by first | omega | (simp <;> omega)))))); rintro e wS ⟨hb1, hor⟩; (obtain ⟨A', c', rfl, hgs⟩ : ∃ A' c', e = .returned (.tuple #[.slice A' n c', .int .i64 0]) ∧ Grs wS wS.heap.size A' n c' gs := by rcases hor with ⟨h, -⟩ | ⟨gs', A', c', h, he, hg⟩; cases h; cases h; exact ⟨A', c', he, hg⟩); have HGS := Lib.hid hgs; have kj : Bk wS (w.heap.size + 1) 52 #[.int .i64 lo, .int .i64 hi, .int .i64 so] := (by repeat (first | with_reducible assumption | with_reducible exact Bk.at_ (by first | (simp; done) | omega) | with_reducible refine Bk.alloc ?_ _ | with_reducible refine Bk.drew ?_ | with_reducible refine Bk.drewN ?_ _ | with_reducible refine Bk.step (by with_reducible assumption) ?_ (by first | omega | (simp <;> omega)))); have HBJ := Lib.hid kj; have HBS : Hid (Below w.heap.size w wS) := Lib.hid (by exact (by repeat (first | with_reducible exact Below.refl _ _ | with_reducible assumption | with_reducible refine Below.drew ?_ | with_reducible refine Below.drewN ?_ _ | with_reducible refine Below.alloc2 ?_ _ | with_reducible refine Below.alloc ?_ (by first | omega | (simp <;> omega)) _ | with_reducible refine Below.setCell ?_ (by first | omega | (simp <;> omega)) _ | with_reducible refine Below.step2 (by with_reducible assumption) ?_ | with_reducible refine Below.step (by with_reducible assumption) ?_ (by first | omega | (simp <;> omega))))); clear hgs kj hor hb1))
    have hcapg := HGS.out.cap
    have hmaxg := HGS.out.max
    go_loopw [11, 13, 47] (fun v _ x wr => ∃ k : Nat, k ≤ n ∧ x = .int .i64 k ∧ wr.ownsRow wS.heap.size 3 1 v k (i64s (tops so ((gs.map (·.c)).take k))) ∧ Below wS.heap.size wS wr) (fun _ _ x _ => n - (intOf x).toNat)
    case atStart => exact ⟨0, Nat.zero_le _, rfl, World.ownsRow_nil _ _ _ _, Below.refl _ _⟩
    case round =>
      obtain ⟨k, hk, rfl, hown, hb⟩ := hrel
      have HB := Lib.hid hb
      have HOWN := Lib.hid hown
      have ow := hb.size
      clear hown
      by_cases hlt2 : k < n
      · obtain ⟨b, o, ⟨xa, xb, xc, xd⟩, rfl, hbb, hx, q0, q1, q2, q3⟩ := (HGS.out.below hb (Nat.le_refl _) hb.size).at_ hlt2
        have HE := Lib.hid (tops_step (so := so) hx)
        have hxb : -1000000 ≤ xc ∧ xc ≤ 1000000 := by simpa using List.all_eq_true.1 HGB.out xc (List.mem_map.2 ⟨_, List.mem_of_getElem? hx, rfl⟩)
        dsimp only at q0 q1 q2 q3 HE
        clear hb hx
        go_upto_region 12 with (fail)
        go_cut [13] (fun P wx => ∃ gg, P = .pointer (some ⟨gg, 0, none⟩) ∧ Bk wx gg 115 #[.int .i64 xa, .int .i64 xb, .int .i64 xc, .int .i64 xd] ∧ Below wr.heap.size wr wx)
        case first =>
          go_wp2
          go_meet
          exact ⟨_, rfl, (by repeat (first | with_reducible assumption | with_reducible exact Bk.at_ (by first | (simp; done) | omega) | with_reducible refine Bk.alloc ?_ _ | with_reducible refine Bk.drew ?_ | with_reducible refine Bk.drewN ?_ _ | with_reducible refine Bk.step (by with_reducible assumption) ?_ (by first | omega | (simp <;> omega)))), (by repeat (first | with_reducible exact Below.refl _ _ | with_reducible assumption | with_reducible refine Below.drew ?_ | with_reducible refine Below.drewN ?_ _ | with_reducible refine Below.alloc2 ?_ _ | with_reducible refine Below.alloc ?_ (by first | omega | (simp <;> omega)) _ | with_reducible refine Below.setCell ?_ (by first | omega | (simp <;> omega)) _ | with_reducible refine Below.step2 (by with_reducible assumption) ?_ | with_reducible refine Below.step (by with_reducible assumption) ?_ (by first | omega | (simp <;> omega))))⟩
        case rest =>
          obtain ⟨gg, rfl, kb, hb5⟩ := hcut
          obtain ⟨r0, r1, r2, r3⟩ := kb.fourc
          have hb9 := HB.out.trans (hb5.mono HB.out.size)
          have hjl := HBJ.out.lt
          obtain ⟨⟨j0, j1, j2⟩, -⟩ := Bk.three (show Bk wc (w.heap.size + 1) 52 #[.int .i64 lo, .int .i64 hi, .int .i64 so] from (hb9.block _ hjl).trans HBJ.out)
          have ow5 := hb9.size
          have og := kb.lt
          obtain ⟨S, hS⟩ : ∃ S, xc + so = S := ⟨_, rfl⟩
          have hw1 : IntKind.i64.wrap (xc + so) = S := by rw [hS]; exact IntWalk.i64_in _ (by omega)
          rw [hS] at HE
          have HB9 := Lib.hid hb9
          have HOWN5 := Lib.hid (own_step HOWN.out hb5)
          clear kb hb5 hb9 hS
          go_wp2_with (at_builtin; refine wpList_append_own_at _ rfl _ _ _ rfl wS.heap.size 3 i0 _ 1 8 Tryz.underlying22 HI0.out HZ0.out HZ1.out HZ2.out rfl (by omega) _ _ _ rfl (HOWN5.out.alloc _) ⟨wc.heap.size, 0, none⟩ 1 1 [.int .i64 S] rfl rfl (World.news_of_block (cs := #[.int .i64 S]) (t := 3) (fr := (0, 0)) (heap_alloc_new wc _)) (by intro u hu; simp at hu; subst hu; rfl) (by unfold maxLen; omega) (by omega) (by simp; omega) ?_; intro v1 w1 hown1 hg1 _ _; have HO1 := Lib.hid hown1; have HG1 := Lib.hid hg1; clear hown1 hg1)
          go_roundw
          case rel =>
            have hb0 := HB9.out
            refine ⟨k + 1, by omega, by go_num, ?_, ?_⟩
            · have := HO1.out
              rw [HE.out]
              simpa [i64s] using this
            · exact (Below.alloc hb0 hb0.size _).grown HG1.out (by simp; omega) (fun q hq => by have := (HOWN5.out.lt _ hq).1; omega)
          case measure => (simp [intOf]; omega)
      · obtain rfl : k = n := by omega
        clear hb
        have HX : Hid ((gs.map (·.c)).take k = gs.map (·.c)) := Lib.hid (List.take_of_length_le (by simp; have := HSL.out; omega))
        obtain ⟨A5, c5, rfl, hs'⟩ := Nums.of_own HOWN.out
        rw [HX.out] at hs'
        have HS := Lib.hid hs'
        clear hs'
        go_wp2
        refine bodyPost_ret (results_tmp2 rfl _ _ _) rfl ?_
        exact ⟨HBS.out.trans (HB.out.mono HBS.out.size), A5, c5, rfl, HS.out⟩

end Go.Proofs.YtgljncfijcamhaaGreatDoor
