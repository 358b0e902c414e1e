/- Chapter 6, walks: Demands of a valid input. -/
import Derived.Test.YtgljncfijcamhaaGreatDoorDemands6
namespace Go.Proofs.YtgljncfijcamhaaGreatDoor
open Go.RowKit

theorem info_dem : (Tryz.prog.info? 35).map (fun i => (i.zero, i.size, i.bytes)) = some (some (.agg #[.int .i64 0, .int .i64 0, .slice none 0 0]), 3, 40) := by kernel_rfl
theorem wants_in {lv : List Int} {fr : Int} (bl : allIn 1 1000000 lv = true) : ∀ h ∈ wants lv fr, 0 ≤ h ∧ h ≤ 1000000 := fun h hh => by
  obtain ⟨⟨j, hj, e⟩, -⟩ := wantTo_mem.1 hh
  match j, e with
  | 0, e => simp at e; omega
  | j + 1, e =>
    have hj : j < lv.length := by omega
    have e : h = lv[j] := by rw [e]; simp [List.getD_eq_getElem?_getD, List.getElem?_eq_getElem hj]
    have := List.all_eq_true.1 bl lv[j] (List.getElem_mem hj)
    simp at this
    omega
theorem wants_len {lv : List Int} {fr : Int} : (wants lv fr).length ≤ lv.length + 1 := wantTo_len _
set_option maxRecDepth 100000 in
set_option maxHeartbeats 16000000 in
theorem demands_ok (f : Int) (A A2 : Option Addr) (n c m c2 : Nat) (ev fr sk ma st : Int) (T : Option Addr) (k0 ct : Nat) (a lv : List Int) (l : List (Int × Int)) (w : World) (ha : Nums w w.heap.size A n c a) (hl : Nums w w.heap.size A2 m c2 lv) (ht : Pts w w.heap.size T k0 ct l)
    (hn : n ≤ 60) (hm1 : 1 ≤ m) (hm : m ≤ 60) (hk0 : k0 ≤ 1800) (bl : allIn 1 1000000 lv = true) (hin : l.any (fun t => !tieIn n m t) = false) (hR : ruleErr ev fr sk ma st = 0)
    (c1 : ∀ w', Below w.heap.size w w' → Calls Tryz.prog 80 #[.agg #[.int .i64 f, .slice A n c, .slice A2 m c2]] w' fun e w'' => Below w'.heap.size w' w'' ∧ e = .returned (.int .i64 0))
    (c3 : ∀ w', Below w.heap.size w w' → Calls Tryz.prog 45 #[.agg #[.int .i64 f, .slice A n c, .slice A2 m c2], .slice T k0 ct] w' fun e w'' => Below w'.heap.size w' w'' ∧ e = .returned (.int .i64 0)) :
    Calls Tryz.prog 10 #[.agg #[.int .i64 f, .slice A n c, .slice A2 m c2], .agg #[.int .i64 ev, .int .i64 fr, .int .i64 sk, .int .i64 ma, .int .i64 st], .slice T k0 ct] w fun e w' => Below w.heap.size w w' ∧ ∃ A' c', e = .returned (.tuple #[.slice A' (demAll lv (wants lv fr) ev sk l k0 n).length c', .int .i64 0]) ∧ Dems w' w'.heap.size A' (demAll lv (wants lv fr) ev sk l k0 n).length c' (demAll lv (wants lv fr) ev sk l k0 n) := by
  have C1 : Hid (∀ w', Below w.heap.size w w' → Calls Tryz.prog 44 #[.agg #[.int .i64 f, .slice A n c, .slice A2 m c2], .agg #[.int .i64 ev, .int .i64 fr, .int .i64 sk, .int .i64 ma, .int .i64 st]] w' fun e w'' => Below w'.heap.size w' w'' ∧ e = .returned (.int .i64 0)) := Lib.hid fun w' hb => by
    have := rulesErr_any f A A2 n c m c2 ev fr sk ma st 0 w' (fun w'' hb' => c1 w'' (hb.trans (hb'.mono hb.size)))
    rwa [hR] at this
  have C3 := Lib.hid c3
  have CW : Hid (∀ w', Below w.heap.size w w' → Calls Tryz.prog 46 #[.agg #[.int .i64 f, .slice A n c, .slice A2 m c2], .agg #[.int .i64 ev, .int .i64 fr, .int .i64 sk, .int .i64 ma, .int .i64 st]] w' fun e w'' => Below w'.heap.size w' w'' ∧ ∃ A' n' c', e = .returned (.slice A' n' c') ∧ Nums w'' w''.heap.size A' n' c' (wants lv fr)) := Lib.hid fun w' hb =>
    wanting_any f A A2 n c m c2 ev fr sk ma st lv w' (hl.below hb (Nat.le_refl _) hb.size) hm1 hm bl
  have CA : Hid (∀ (i : Nat) (h : Int) w', i ≤ 60 → 0 ≤ h → h ≤ 1000000 → Below w.heap.size w w' → Calls Tryz.prog 47 #[.agg #[.int .i64 f, .slice A n c, .slice A2 m c2], .agg #[.int .i64 ev, .int .i64 fr, .int .i64 sk, .int .i64 ma, .int .i64 st], .slice T k0 ct, .int .i64 (i : Int), .int .i64 h] w' fun e w'' => Below w'.heap.size w' w'' ∧ ∃ v, e = .returned v ∧ w''.ownsRow w'.heap.size 3 1 v (ansTo lv ev sk i h l k0).length (i64s (ansTo lv ev sk i h l k0))) := Lib.hid fun i h w' h1 h2 h3 hb =>
    answers_any f A A2 T n c m c2 k0 ct ev fr sk ma st h i lv l w' (hl.below hb (Nat.le_refl _) hb.size) (ht.below hb (Nat.le_refl _) hb.size) hn hk0 h1 h2 h3 bl hin
  have hcap := ha.cap
  have hmax := ha.max
  have HWI := Lib.hid (wants_in (lv := lv) (fr := fr) bl)
  have HWL : Hid ((wants lv fr).length ≤ m + 1) := Lib.hid (by have := wants_len (lv := lv) (fr := fr); rw [hl.len] at this; exact this)
  obtain ⟨HS, hHS⟩ : ∃ HS, wants lv fr = HS := ⟨_, rfl⟩
  rw [hHS] at CW HWI HWL ⊢
  obtain ⟨i0, hi0, hz0, hz1, hz2⟩ := info_parts info_dem
  have HI0 := Lib.hid hi0
  have HZ0 := Lib.hid hz0
  have HZ1 := Lib.hid hz1
  have HZ2 := Lib.hid hz2
  clear hi0 hz0 hz1 hz2 ha hl ht c1 c3 bl hin hR hHS hm1
  go_enter Tryz.func10, Tryz.ntmps10
  go_wp2_with (first
        | (go_at_call 44; with_reducible refine (C1.out _ ?_).mono ?_; (focus (exact (by repeat (first | with_reducible exact Below.refl _ _ | with_reducible assumption | with_reducible refine Below.drew ?_ | with_reducible refine Below.drewN ?_ _ | with_reducible refine Below.alloc2 ?_ _ | with_reducible refine Below.alloc ?_ (by first | omega | (simp <;> omega)) _ | with_reducible refine Below.setCell ?_ (by first | omega | (simp <;> omega)) _ | with_reducible refine Below.step2 (by with_reducible assumption) ?_ | with_reducible refine Below.step (by with_reducible assumption) ?_ (by first | omega | (simp <;> omega)))))); rintro e w1 ⟨hb1, rfl⟩; have kg : Bk w1 w.heap.size 24 #[.int .i64 f, .slice A n c, .slice A2 m c2] := (by repeat (first | with_reducible assumption | with_reducible exact Bk.at_ (by first | (simp; done) | omega) | with_reducible refine Bk.alloc ?_ _ | with_reducible refine Bk.drew ?_ | with_reducible refine Bk.drewN ?_ _ | with_reducible refine Bk.step (by with_reducible assumption) ?_ (by first | omega | (simp <;> omega)))); have kr : Bk w1 (w.heap.size + 1) 26 #[.int .i64 ev, .int .i64 fr, .int .i64 sk, .int .i64 ma, .int .i64 st] := (by repeat (first | with_reducible assumption | with_reducible exact Bk.at_ (by first | (simp; done) | omega) | with_reducible refine Bk.alloc ?_ _ | with_reducible refine Bk.drew ?_ | with_reducible refine Bk.drewN ?_ _ | with_reducible refine Bk.step (by with_reducible assumption) ?_ (by first | omega | (simp <;> omega)))); obtain ⟨⟨g0, g1, g2⟩, -⟩ := kg.three; obtain ⟨r0, r1, r2, r3, r4⟩ := kr.five; have oz1 := hb1.size; (try simp at oz1))
        | (go_at_call 45; with_reducible refine (C3.out _ ?_).mono ?_; (focus (exact (by repeat (first | with_reducible exact Below.refl _ _ | with_reducible assumption | with_reducible refine Below.drew ?_ | with_reducible refine Below.drewN ?_ _ | with_reducible refine Below.alloc2 ?_ _ | with_reducible refine Below.alloc ?_ (by first | omega | (simp <;> omega)) _ | with_reducible refine Below.setCell ?_ (by first | omega | (simp <;> omega)) _ | with_reducible refine Below.step2 (by with_reducible assumption) ?_ | with_reducible refine Below.step (by with_reducible assumption) ?_ (by first | omega | (simp <;> omega)))))); rintro e w1 ⟨hb1, rfl⟩; have kg : Bk w1 w.heap.size 24 #[.int .i64 f, .slice A n c, .slice A2 m c2] := (by repeat (first | with_reducible assumption | with_reducible exact Bk.at_ (by first | (simp; done) | omega) | with_reducible refine Bk.alloc ?_ _ | with_reducible refine Bk.drew ?_ | with_reducible refine Bk.drewN ?_ _ | with_reducible refine Bk.step (by with_reducible assumption) ?_ (by first | omega | (simp <;> omega)))); have kr : Bk w1 (w.heap.size + 1) 26 #[.int .i64 ev, .int .i64 fr, .int .i64 sk, .int .i64 ma, .int .i64 st] := (by repeat (first | with_reducible assumption | with_reducible exact Bk.at_ (by first | (simp; done) | omega) | with_reducible refine Bk.alloc ?_ _ | with_reducible refine Bk.drew ?_ | with_reducible refine Bk.drewN ?_ _ | with_reducible refine Bk.step (by with_reducible assumption) ?_ (by first | omega | (simp <;> omega)))); obtain ⟨⟨g0, g1, g2⟩, -⟩ := kg.three; obtain ⟨r0, r1, r2, r3, r4⟩ := kr.five; have oz1 := hb1.size; (try simp at oz1))
        | (go_at_call 46; with_reducible refine (CW.out _ ?_).mono ?_; (focus (exact (by repeat (first | with_reducible exact Below.refl _ _ | with_reducible assumption | with_reducible refine Below.drew ?_ | with_reducible refine Below.drewN ?_ _ | with_reducible refine Below.alloc2 ?_ _ | with_reducible refine Below.alloc ?_ (by first | omega | (simp <;> omega)) _ | with_reducible refine Below.setCell ?_ (by first | omega | (simp <;> omega)) _ | with_reducible refine Below.step2 (by with_reducible assumption) ?_ | with_reducible refine Below.step (by with_reducible assumption) ?_ (by first | omega | (simp <;> omega)))))); rintro e wS ⟨hb1, A', n', c', rfl, hN⟩; have HNS := Lib.hid hN; have kg : Bk wS w.heap.size 24 #[.int .i64 f, .slice A n c, .slice A2 m c2] := (by repeat (first | with_reducible assumption | with_reducible exact Bk.at_ (by first | (simp; done) | omega) | with_reducible refine Bk.alloc ?_ _ | with_reducible refine Bk.drew ?_ | with_reducible refine Bk.drewN ?_ _ | with_reducible refine Bk.step (by with_reducible assumption) ?_ (by first | omega | (simp <;> omega)))); have kr : Bk wS (w.heap.size + 1) 26 #[.int .i64 ev, .int .i64 fr, .int .i64 sk, .int .i64 ma, .int .i64 st] := (by repeat (first | with_reducible assumption | with_reducible exact Bk.at_ (by first | (simp; done) | omega) | with_reducible refine Bk.alloc ?_ _ | with_reducible refine Bk.drew ?_ | with_reducible refine Bk.drewN ?_ _ | with_reducible refine Bk.step (by with_reducible assumption) ?_ (by first | omega | (simp <;> omega)))); obtain ⟨⟨g0, g1, g2⟩, -⟩ := kg.three; have oz1 := hb1.size; (try simp at oz1); have HBS : Hid (Below w.heap.size w wS) := Lib.hid (by exact (by repeat (first | with_reducible exact Below.refl _ _ | with_reducible assumption | with_reducible refine Below.drew ?_ | with_reducible refine Below.drewN ?_ _ | with_reducible refine Below.alloc2 ?_ _ | with_reducible refine Below.alloc ?_ (by first | omega | (simp <;> omega)) _ | with_reducible refine Below.setCell ?_ (by first | omega | (simp <;> omega)) _ | with_reducible refine Below.step2 (by with_reducible assumption) ?_ | with_reducible refine Below.step (by with_reducible assumption) ?_ (by first | omega | (simp <;> omega))))); have HKG := Lib.hid kg; have HKR := Lib.hid kr; clear hN kg kr))
  have hcapS := HNS.out.cap
  have hmaxS := HNS.out.max
  have hlenS := HNS.out.len
  have hHm := HWL.out
  rw [hlenS] at hHm
  have HLS := Lib.hid hlenS
  clear hlenS
  go_loopw [11, 12, 14, 33] (fun v _ _ x wr => ∃ i : Nat, i ≤ n ∧ x = .int .i64 i ∧ (∃ ls : List DemS, Hid (ls.map (·.1) = demAll lv HS ev sk l k0 i) ∧ wr.ownsRow wS.heap.size 35 3 v ls.length (dcells ls) ∧ LaidBut wr v.ownBlock ls) ∧ Below wS.heap.size wS wr) (fun _ _ _ x _ => n - (intOf x).toNat)
  case atStart => exact ⟨0, Nat.zero_le _, rfl, ⟨[], Lib.hid rfl, World.ownsRow_nil _ _ _ _, LaidBut.nil _ _⟩, Below.refl _ _⟩
  case round =>
    obtain ⟨i, hi, rfl, ⟨ls, HM, hown, hlaid⟩, hb⟩ := hrel
    have HB := Lib.hid hb
    have HOWN := Lib.hid hown
    have HLD := Lib.hid hlaid
    clear hown hlaid hb
    by_cases hlt : i < n
    · go_wp2
      go_loopw [11, 14, 38] (fun v _ x wr => ∃ j : Nat, j ≤ n' ∧ x = .int .i64 j ∧ (∃ ls : List DemS, Hid (ls.map (·.1) = demAll lv HS ev sk l k0 i ++ demRow lv HS ev sk l k0 i j) ∧ wr.ownsRow wS.heap.size 35 3 v ls.length (dcells ls) ∧ LaidBut wr v.ownBlock ls) ∧ Below wS.heap.size wS wr) (fun _ _ x _ => n' - (intOf x).toNat)
      case atStart => exact ⟨0, Nat.zero_le _, rfl, ⟨ls, Lib.hid (by simpa [demRow] using HM.out), HOWN.out, HLD.out⟩, HB.out⟩
      case round =>
        clear HB HOWN HLD HM ls
        obtain ⟨j, hj, rfl, ⟨ls, HM, hown, hlaid⟩, hb⟩ := hrel
        have HB := Lib.hid hb
        have HOWN := Lib.hid hown
        have HLD := Lib.hid hlaid
        have ow := hb.size
        have okr := HKR.out.lt
        have okg := HKG.out.lt
        obtain ⟨⟨p0, p1, p2⟩, -⟩ := Bk.three (show Bk wr w.heap.size 24 #[.int .i64 f, .slice A n c, .slice A2 m c2] from (hb.block _ okg).trans HKG.out)
        obtain ⟨r0, r1, r2, r3, r4⟩ := Bk.five (show Bk wr (w.heap.size + 1) 26 #[.int .i64 ev, .int .i64 fr, .int .i64 sk, .int .i64 ma, .int .i64 st] from (hb.block _ okr).trans HKR.out)
        have hln : ls.length ≤ 60 * 61 + 61 := by
          have h1 := congrArg List.length HM.out
          rw [List.length_map, List.length_append, demAll_len, demRow_len, HLS.out] at h1
          have h2 : i * n' ≤ 60 * 61 := Nat.mul_le_mul (by omega) (by omega)
          omega
        clear hown hlaid
        by_cases hlt2 : j < n'
        · obtain ⟨b, o, h, rfl, hbb, hx, d0⟩ := (HNS.out.below hb (Nat.le_refl _) hb.size).at_ hlt2
          obtain ⟨q1, q2⟩ := HWI.out h (List.mem_of_getElem? hx)
          have HE : Hid (demRow lv HS ev sk l k0 i (j + 1) = demRow lv HS ev sk l k0 i j ++ [⟨i, h, ansTo lv ev sk i h l k0⟩]) := Lib.hid (by simp only [demRow, getD_of hx])
          clear hb hx
          go_wp2_with (first
        | (go_at_call 47; with_reducible refine (CA.out i h _ ?_ ?_ ?_ ?_).mono ?_; (focus (omega)); (focus (omega)); (focus (omega)); (focus (exact HBS.out.trans (HB.out.mono HBS.out.size))); rintro e wa ⟨hba, v2, rfl, hown2⟩; obtain ⟨A3, c3, rfl, -, -⟩ := Sl.of_own hown2; have HOWN2 := Lib.hid hown2; have HBA := Lib.hid hba; have HOWNA := Lib.hid (own_step HOWN.out hba); have oza := hba.size; clear hba hown2)
        | (at_builtin; refine wpList_append_own_at _ rfl _ _ _ rfl wS.heap.size 35 i0 _ 3 40 Tryz.underlying30 HI0.out HZ0.out HZ1.out HZ2.out rfl (by omega) _ _ _ rfl (HOWNA.out.alloc _) ⟨wa.heap.size, 0, none⟩ 1 1 [.int .i64 (i : Int), .int .i64 h, .slice A3 (ansTo lv ev sk i h l k0).length c3] rfl rfl (World.news_of_block (cs := #[.int .i64 (i : Int), .int .i64 h, .slice A3 (ansTo lv ev sk i h l k0).length c3]) (t := 35) (fr := (0, 0)) (heap_alloc_new wa _)) (by intro u hu; simp at hu; rcases hu with rfl | rfl | rfl <;> rfl) (by unfold maxLen; omega) (by omega) (by simp; omega) ?_; intro v1 w1 hown1 hg1 _ hor; have HO1 := Lib.hid hown1; have HG1 := Lib.hid hg1; have HOR := Lib.hid hor; clear hown1 hg1 hor))
          go_roundw
          case rel =>
            have hb0 := HB.out
            have hba := HBA.out
            have hbx : Below wr.heap.size wr (wa.alloc (.cells #[.int .i64 (i : Int), .int .i64 h, .slice A3 (ansTo lv ev sk i h l k0).length c3] 35)) := hba.alloc hba.size _
            refine ⟨j + 1, by omega, by go_num, ⟨ls ++ [(⟨i, h, ansTo lv ev sk i h l k0⟩, (A3, c3))], Lib.hid ?_, ?_, ?_⟩, ?_⟩
            · rw [List.map_append, HM.out, HE.out]
              simp
            · have := HO1.out
              rw [dcells_append]
              simpa [dcells] using this
            · exact LaidBut.snoc (wx := wa.alloc (.cells #[.int .i64 (i : Int), .int .i64 h, .slice A3 (ansTo lv ev sk i h l k0).length c3] 35)) HLD.out (fun k hk => (HOWN.out.lt k hk).2) hba HOWN2.out ((Below.refl _ _).alloc (Nat.le_refl _) _) HG1.out HOR.out
            · have hbl : Below wS.heap.size wS (wa.alloc (.cells #[.int .i64 (i : Int), .int .i64 h, .slice A3 (ansTo lv ev sk i h l k0).length c3] 35)) := hb0.trans (hbx.mono hb0.size)
              exact hbl.grown HG1.out (by simp; omega) (fun q hq => by have := (HOWN.out.lt _ hq).1; omega)
          case measure => (simp [intOf]; omega)
        · obtain rfl : j = n' := by omega
          clear hb
          go_wp2
          go_roundw
          case rel => exact ⟨i + 1, by omega, by go_num, ⟨ls, Lib.hid (by rw [HM.out]; simp only [demAll, HLS.out]), HOWN.out, HLD.out⟩, HB.out⟩
          case measure => (simp [intOf]; omega)
    · obtain rfl : i = n := by omega
      obtain ⟨A5, c5, rfl, hs, -⟩ := Sl.of_own HOWN.out
      have HSL := Lib.hid hs
      have HL : Hid (ls.length = (demAll lv HS ev sk l k0 i).length) := Lib.hid (by rw [← HM.out, List.length_map])
      clear hs
      go_wp2
      refine bodyPost_ret (results_tmp2 rfl _ _ _) rfl ?_
      have h1 := HL.out
      refine ⟨HBS.out.trans (HB.out.mono HBS.out.size), A5, c5, by rw [← h1]; rfl, ls, HM.out, by rw [← h1]; exact HSL.out, HLD.out.now⟩

end Go.Proofs.YtgljncfijcamhaaGreatDoor
