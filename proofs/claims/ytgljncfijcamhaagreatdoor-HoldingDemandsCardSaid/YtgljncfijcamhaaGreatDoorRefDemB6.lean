/- Chapter 6, walks: the reference's Demands. -/
import Derived.Test.YtgljncfijcamhaaGreatDoorRefDem6
namespace Go.Proofs.YtgljncfijcamhaaGreatDoor
open Go.RowKit

theorem cell_drewW (w : World) (a : Addr) : w.drew.cell? a = w.cell? a := rfl
theorem size_drewW (w : World) : w.drew.heap.size = w.heap.size := rfl
theorem own_setW {w : World} {base e size n g : Nat} {v : Value} {xs : List Value} (h : w.ownsRow base e size v n xs) (hg : g < base) (o : Nat) (u : Value) : (w.setCell ⟨g, o, none⟩ u).ownsRow base e size v n xs :=
  h.kept (row := some g) ⟨rfl, rfl, rfl, by simp [World.setCell], fun k _ hk => Below.heap_setCell _ _ _ _ (fun e => hk (by rw [e]))⟩ (by
    rcases h.2 with ⟨rfl, -⟩ | ⟨g', cap, cur, rfl, hb, -⟩
    · exact .inl rfl
    · right
      simp only [Value.ownBlock]
      intro e
      injection e with e
      omega)
theorem LaidBut.drewN {w : World} {r : Option Nat} {ls : List DemS} (h : LaidBut w r ls) (n : Nat) : LaidBut (w.drewN n) r ls := fun w' hw' => h w' ⟨hw'.os, hw'.tape, hw'.output, hw'.size, hw'.block⟩
set_option maxRecDepth 100000 in
set_option maxHeartbeats 16000000 in
theorem refDemands_any (f : Int) (A A2 : Option Addr) (n c m c2 : Nat) (ev fr sk ma st : Int) (T : Option Addr) (k0 ct : Nat) (a lv : List Int) (l : List (Int × Int)) (w : World) (ha : Nums w w.heap.size A n c a) (hl : Nums w w.heap.size A2 m c2 lv) (ht : Pts w w.heap.size T k0 ct l)
    (hn : n ≤ 60) (hm1 : 1 ≤ m) (hm : m ≤ 60) (hk0 : k0 ≤ 1800) (bl : allIn 1 1000000 lv = true) (hin : l.any (fun t => !tieIn n m t) = false) (he : 1 ≤ ev ∧ ev ≤ 1000000) (hs : 0 ≤ sk ∧ sk ≤ 10) :
    Calls Tryz.prog 15 #[.agg #[.int .i64 f, .slice A n c, .slice A2 m c2], .agg #[.int .i64 ev, .int .i64 fr, .int .i64 sk, .int .i64 ma, .int .i64 st], .slice T k0 ct] w fun e w' => Below w.heap.size w w' ∧ ∃ A' c', e = .returned (.slice A' (demAll lv (wants lv fr) ev sk l k0 n).length c') ∧ Dems w' w'.heap.size A' (demAll lv (wants lv fr) ev sk l k0 n).length c' (demAll lv (wants lv fr) ev sk l k0 n) := by
  obtain ⟨M, rfl⟩ : ∃ M, m = M + 1 := ⟨m - 1, by omega⟩
  have hcapA := ha.cap
  have hmaxA := ha.max
  have hcap := hl.cap
  have hmax := hl.max
  have hcapT := ht.cap
  have hmaxT := ht.max
  have HLEN := Lib.hid hl.len
  have HLT := Lib.hid ht.len
  obtain ⟨b, o, T0, rfl, hbb, hT, c0⟩ := hl.at_ (k := M) (by omega)
  have CHO : Hid (∀ (i : Nat) (h : Int) (X1 X2 : Nat) w', X2 < M + 1 → i ≤ 60 → 0 ≤ h → h ≤ 1000000 → Below w.heap.size w w' → Calls Tryz.prog 50 #[.agg #[.int .i64 f, .slice A n c, .slice (some ⟨b, o, none⟩) (M + 1) c2], .agg #[.int .i64 ev, .int .i64 fr, .int .i64 sk, .int .i64 ma, .int .i64 st], .agg #[.int .i64 (X1 : Int), .int .i64 (X2 : Int)], .int .i64 (i : Int), .int .i64 h] w' fun e w'' => Below w'.heap.size w' w'' ∧ e = .returned (.bool (ansIn lv ev sk i h ((X1 : Int), (X2 : Int))))) := Lib.hid fun i h X1 X2 w' h2 h3 h4 h5 hb =>
    refHolds_any f A (some ⟨b, o, none⟩) n c (M + 1) c2 ev fr sk ma st h i X1 X2 lv w' (hl.below hb (Nat.le_refl _) hb.size) h2 h3 h4 h5 bl he hs
  have HL : Hid (∀ w', Below w.heap.size w w' → Nums w' w.heap.size (some ⟨b, o, none⟩) (M + 1) c2 lv) := fun w' hb => hl.below hb (Nat.le_refl _) (Nat.le_refl _)
  have HTT : Hid (∀ w', Below w.heap.size w w' → Pts w' w.heap.size T k0 ct l) := fun w' hb => ht.below hb (Nat.le_refl _) (Nat.le_refl _)
  have HNEWS : Hid (∀ w', Below w.heap.size w w' → ∀ j u, (i64s lv)[j]? = some u → w'.cell? ((⟨b, o, none⟩ : Addr).add j) = some u) := Lib.hid fun w' hb j u hu => by
    obtain ⟨b', o', e, _, hc⟩ := (HL.out w' hb).sl.cells (by omega)
    simp only [Option.some.injEq, Addr.mk.injEq, and_true] at e
    obtain ⟨rfl, rfl⟩ := e
    rw [add_at]
    exact hc j u hu
  have HTOP : Hid (topOf lv = T0) := Lib.hid (by unfold topOf; rw [HLEN.out]; exact getD_of hT)
  have HBD : Hid (∀ (k : Nat) (x : Int), (0 :: lv)[k]? = some x → 0 ≤ x ∧ x ≤ 1000000) := Lib.hid fun k x hx => by
    match k, hx with
    | 0, hx => simp at hx; omega
    | k + 1, hx =>
      have := List.all_eq_true.1 bl x (List.mem_of_getElem? (i := k) (by simpa using hx))
      simp at this
      omega
  have hTb : 0 ≤ T0 ∧ T0 ≤ 1000000 := HBD.out (M + 1) T0 (by simpa using hT)
  have HNAT : Hid (∀ t ∈ l, ∃ x k : Nat, t = ((x : Int), (k : Int)) ∧ x < n ∧ k < M + 1) := Lib.hid fun t htm => by
    have h1 := List.any_eq_false.1 hin t htm
    simp [tieIn, inR] at h1
    exact ⟨t.1.toNat, t.2.toNat, by ext <;> simp <;> omega, by omega, by omega⟩
  have HAL : Hid (∀ i h k, (ansTo lv ev sk i h l k).length ≤ k) := Lib.hid fun i h k => ansTo_len k
  have HT1 : Hid ((0 :: lv)[M + 1]? = some T0) := Lib.hid (by simpa using hT)
  have HWT : Hid (wants lv fr = wantTo (0 :: lv) T0 fr (1 + (M + 1))) := Lib.hid (by unfold wants; rw [HTOP.out, show lv.length + 1 = 1 + (M + 1) from by have := HLEN.out; omega])
  have HROW : Hid (∀ i, demRow lv (wants lv fr) ev sk l k0 i (wants lv fr).length = (wants lv fr).map (mkDem lv ev sk l k0 i)) := Lib.hid fun i => by rw [demRow_map (Nat.le_refl _), List.take_length]
  rw [HWT.out] at HROW ⊢
  obtain ⟨HS, hHS⟩ : ∃ HS, wantTo (0 :: lv) T0 fr (1 + (M + 1)) = HS := ⟨_, rfl⟩
  rw [hHS] at HROW ⊢
  have HHS := Lib.hid hHS
  have HHL : Hid (HS.length ≤ 1 + (M + 1)) := Lib.hid (by rw [← hHS]; exact wantTo_len _)
  obtain ⟨i0, hi0, hq0, hq1, hq2⟩ := info_parts info_intW
  have HI0 := Lib.hid hi0
  have HZ0 := Lib.hid hq0
  have HZ1 := Lib.hid hq1
  have HZ2 := Lib.hid hq2
  obtain ⟨d0, hd0, hd1, hd2, hd3⟩ := info_parts info_dem
  have HD0 := Lib.hid hd0
  have HD1 := Lib.hid hd1
  have HD2 := Lib.hid hd2
  have HD3 := Lib.hid hd3
  have hwM : IntKind.i64.wrap (1 + ((M : Int) + 1) - 1) = (M : Int) + 1 := by rw [IntWalk.i64_in _ (by omega)]; omega
  have hwM2 : IntKind.i64.wrap (((1 + (M + 1) : Nat) : Int) - 1) = (M : Int) + 1 := by rw [IntWalk.i64_in _ (by omega)]; omega
  have hwM3 : IntKind.i64.wrap ((M : Int) + 1) = (M : Int) + 1 := IntWalk.i64_in _ (by omega)
  have z1 : (0 : Int) ≤ (M : Int) + 1 := by omega
  have z2 : (M : Int) + 1 < ((1 + (M + 1) : Nat) : Int) := by omega
  have z3 : (M : Int) + 1 < 1 + ((M : Int) + 1) := by omega
  clear hi0 hq0 hq1 hq2 hd0 hd1 hd2 hd3 ha hl ht hT bl hin hHS c0
  go_enter Tryz.func15, Tryz.ntmps15
  go_wp2_with (go_loud (at_builtin; refine wpList_append_own_at _ rfl _ _ _ rfl (w.heap.size + 2) 3 i0 _ 1 8 Tryz.underlying22 HI0.out HZ0.out HZ1.out HZ2.out rfl (by omega) (.slice (some ⟨w.heap.size + 1 + 1, 0, none⟩) 1 1) 1 [.int .i64 0] rfl (by have := World.ownsRow_lit (base := w.heap.size + 2) (e := 3) (size := 1) ((w.alloc (.cells #[.int .i64 f, .slice A n c, .slice (some ⟨b, o, none⟩) (M + 1) c2] 24)).alloc (.cells #[.int .i64 ev, .int .i64 fr, .int .i64 sk, .int .i64 ma, .int .i64 st] 26)) #[.int .i64 0] 1 (by simp) (by unfold maxLen; omega) rfl; simpa using this) ⟨b, o, none⟩ (M + 1) c2 (i64s lv) rfl (by rw [i64s_length]; have := HLEN.out; omega) ?_ (by intro u hu; simp [i64s] at hu; obtain ⟨x, _, rfl⟩ := hu; rfl) (by unfold maxLen; omega) (by omega) (by simp) ?_; (focus (exact HNEWS.out _ (by exact (by repeat (first | with_reducible exact Below.refl _ _ | with_reducible assumption | with_reducible refine Below.drew ?_ | with_reducible refine Below.drewN ?_ _ | with_reducible refine Below.alloc2 ?_ _ | with_reducible refine Below.alloc ?_ (by first | omega | (simp <;> omega)) _ | with_reducible refine Below.setCell ?_ (by first | omega | (simp <;> omega)) _ | with_reducible refine Below.step2 (by with_reducible assumption) ?_ | with_reducible refine Below.step (by with_reducible assumption) ?_ (by first | omega | (simp <;> omega))))))); intro v1 wS hownS hgS _ _; have kg1 : Bk wS w.heap.size 24 #[.int .i64 f, .slice A n c, .slice (some ⟨b, o, none⟩) (M + 1) c2] := (hgS.block _ (by first | (simp; done) | (simp; omega) | omega) (by simp [Value.ownBlock] <;> omega)).trans (show Bk _ _ _ _ from (by repeat (first | with_reducible assumption | with_reducible exact Bk.at_ (by first | (simp; done) | omega) | with_reducible refine Bk.alloc ?_ _ | with_reducible refine Bk.drew ?_ | with_reducible refine Bk.drewN ?_ _ | with_reducible refine Bk.step (by with_reducible assumption) ?_ (by first | omega | (simp <;> omega))))); have kr1 : Bk wS (w.heap.size + 1) 26 #[.int .i64 ev, .int .i64 fr, .int .i64 sk, .int .i64 ma, .int .i64 st] := (hgS.block _ (by first | (simp; done) | (simp; omega) | omega) (by simp [Value.ownBlock] <;> omega)).trans (show Bk _ _ _ _ from (by repeat (first | with_reducible assumption | with_reducible exact Bk.at_ (by first | (simp; done) | omega) | with_reducible refine Bk.alloc ?_ _ | with_reducible refine Bk.drew ?_ | with_reducible refine Bk.drewN ?_ _ | with_reducible refine Bk.step (by with_reducible assumption) ?_ (by first | omega | (simp <;> omega))))); have hbS : Below w.heap.size w wS := Below.grown (by exact (by repeat (first | with_reducible exact Below.refl _ _ | with_reducible assumption | with_reducible refine Below.drew ?_ | with_reducible refine Below.drewN ?_ _ | with_reducible refine Below.alloc2 ?_ _ | with_reducible refine Below.alloc ?_ (by first | omega | (simp <;> omega)) _ | with_reducible refine Below.setCell ?_ (by first | omega | (simp <;> omega)) _ | with_reducible refine Below.step2 (by with_reducible assumption) ?_ | with_reducible refine Below.step (by with_reducible assumption) ?_ (by first | omega | (simp <;> omega))))) hgS (by simp; omega) (by intro k hk; simp [Value.ownBlock] at hk; omega); obtain ⟨A', c', rfl, hNS⟩ := Nums.of_own (l := 0 :: lv) (by simpa [i64s] using hownS); obtain ⟨bS, oS, xS, rfl, obS, hxS, cS⟩ := hNS.at_ (k := M + 1) (by omega); obtain rfl : xS = T0 := Option.some.inj (hxS.symm.trans HT1.out); have HNS := Lib.hid hNS; clear hxS; have HKR := Lib.hid kr1; have HKG := Lib.hid kg1; have HBS := Lib.hid hbS; clear hownS hgS hNS kg1 kr1 hbS))
  have hcapS := HNS.out.cap
  have hmaxS := HNS.out.max
  have okr := HKR.out.lt
  have okg := HKG.out.lt
  clear cS
  go_loopw [9, 10, 11, 12, 13] (fun v x _ _ _ wr => ∃ i : Nat, i ≤ n ∧ x = .int .i64 i ∧ (∃ ls : List DemS, Hid (ls.map (·.1) = demAll lv HS ev sk l k0 i) ∧ wr.ownsRow wS.heap.size 35 3 v ls.length (dcells ls) ∧ LaidBut wr v.ownBlock ls) ∧ Below wS.heap.size wS wr) (fun _ x _ _ _ _ => n - (intOf x).toNat)
  case atStart => exact ⟨0, Nat.zero_le _, rfl, ⟨[], Lib.hid rfl, World.ownsRow_nil _ _ _ _, LaidBut.nil _ _⟩, Below.refl _ _⟩
  case round =>
    obtain ⟨i, hi, rfl, ⟨ls, HM, hown, hlaid⟩, hb⟩ := hrel
    have HB := Lib.hid hb
    have HOWN := Lib.hid hown
    have HLD := Lib.hid hlaid
    obtain ⟨⟨p0, p1, p2⟩, -⟩ := Bk.three (show Bk wr w.heap.size 24 #[.int .i64 f, .slice A n c, .slice (some ⟨b, o, none⟩) (M + 1) c2] from (hb.block _ okg).trans HKG.out)
    clear hown hlaid hb
    by_cases hlt : i < n
    · go_wp2
      go_loopw [9, 11, 12, 13] (fun v x _ _ wr => ∃ k : Nat, k ≤ 1 + (M + 1) ∧ x = .int .i64 k ∧ (∃ ls : List DemS, Hid (ls.map (·.1) = demAll lv HS ev sk l k0 i ++ (wantTo (0 :: lv) xS fr k).map (mkDem lv ev sk l k0 i)) ∧ wr.ownsRow wS.heap.size 35 3 v ls.length (dcells ls) ∧ LaidBut wr v.ownBlock ls) ∧ Below wS.heap.size wS wr) (fun _ x _ _ _ => 1 + (M + 1) - (intOf x).toNat)
      case atStart => exact ⟨0, Nat.zero_le _, rfl, ⟨ls, Lib.hid (by simpa [wantTo] using HM.out), HOWN.out, HLD.out⟩, HB.out⟩
      case round =>
        clear HB HOWN HLD HM ls p0 p1 p2
        obtain ⟨k, hk, rfl, ⟨ls, HM, hown, hlaid⟩, hb⟩ := hrel
        have HB := Lib.hid hb
        have HOWN := Lib.hid hown
        have HLD := Lib.hid hlaid
        have ow := hb.size
        obtain ⟨⟨p0, p1, p2⟩, -⟩ := Bk.three (show Bk wr w.heap.size 24 #[.int .i64 f, .slice A n c, .slice (some ⟨b, o, none⟩) (M + 1) c2] from (hb.block _ okg).trans HKG.out)
        obtain ⟨r0, r1, r2, r3, r4⟩ := Bk.five (show Bk wr (w.heap.size + 1) 26 #[.int .i64 ev, .int .i64 fr, .int .i64 sk, .int .i64 ma, .int .i64 st] from (hb.block _ okr).trans HKR.out)
        have hln : ls.length ≤ 60 * 62 + 62 := by
          have h1 := congrArg List.length HM.out
          rw [List.length_map, List.length_append, demAll_len, List.length_map] at h1
          have h2 : i * HS.length ≤ 60 * 62 := Nat.mul_le_mul (by omega) (by have := HHL.out; omega)
          have h3 := wantTo_len (hs := 0 :: lv) (top := xS) (fr := fr) k
          omega
        clear hown hlaid
        by_cases hltk : k < 1 + (M + 1)
        · obtain ⟨b3, o3, h, e3, hbb3, hx, q0⟩ := (HNS.out.below hb (Nat.le_refl _) hb.size).at_ hltk
          obtain ⟨rfl, rfl⟩ : bS = b3 ∧ oS = o3 := by simpa using e3
          have hxb := HBD.out k h hx
          have hw1 : IntKind.i64.wrap (xS - h) = xS - h := IntWalk.i64_in _ (by omega)
          have y1 : (0 : Int) ≤ (k : Int) := by omega
          have y2 : (k : Int) < ((1 + (M + 1) : Nat) : Int) := by omega
          have y3 : (k : Int) < 1 + ((M : Int) + 1) := by omega
          have HX := Lib.hid hx
          clear hb e3 hbb3 hx
          by_cases h1 : fr < xS - h
          · have g1 : ¬ xS - h ≤ fr := by omega
            have g2 : decide (xS - h ≤ fr) = false := by simpa using g1
            have HE : Hid (wantTo (0 :: lv) xS fr (k + 1) = wantTo (0 :: lv) xS fr k ++ [h]) := Lib.hid (wantTo_yes HX.out h1)
            clear h1
            go_wp2
            go_quiet (fail)
            have hownd : (wr.drewN nq).ownsRow _ _ _ _ _ _ := HOWN.out
            have hlaidd := LaidBut.drewN HLD.out nq
            have hbd := Below.drewN HB.out nq
            generalize wr.drewN nq = Wd at hownd hlaidd hbd ⊢
            have HBd := Lib.hid hbd
            have HOWNd := Lib.hid hownd
            have HLDd := Lib.hid hlaidd
            clear hownd hlaidd hbd HOWN HLD p0 p1 p2 r0 r1 r2 r3 r4 q0 ow HB
            have hb := HBd.out
            have ow := hb.size
            have obS2 : bS < Wd.heap.size := by omega
            obtain ⟨⟨p0, p1, p2⟩, -⟩ := Bk.three (show Bk Wd w.heap.size 24 #[.int .i64 f, .slice A n c, .slice (some ⟨b, o, none⟩) (M + 1) c2] from (hb.block _ okg).trans HKG.out)
            obtain ⟨r0, r1, r2, r3, r4⟩ := Bk.five (show Bk Wd (w.heap.size + 1) 26 #[.int .i64 ev, .int .i64 fr, .int .i64 sk, .int .i64 ma, .int .i64 st] from (hb.block _ okr).trans HKR.out)
            have q0 : Wd.cell? ⟨bS, oS + k, none⟩ = some (.int .i64 h) := by
              obtain ⟨b3, o3, h', e3, -, hx, q0⟩ := (HNS.out.below hb (Nat.le_refl _) hb.size).at_ hltk
              obtain ⟨rfl, rfl⟩ : bS = b3 ∧ oS = o3 := by simpa using e3
              obtain rfl : h' = h := Option.some.inj (hx.symm.trans HX.out)
              exact q0
            clear hb
            go_wp2
            go_loopw [13] (fun x wj => ∃ j : Nat, j ≤ k0 ∧ x = .int .i64 j ∧ (∃ A3 c3, Bk wj Wd.heap.size 35 #[.int .i64 (i : Int), .int .i64 h, .slice A3 (ansTo lv ev sk i h l j).length c3] ∧ wj.ownsRow (Wd.heap.size + 1) 3 1 (.slice A3 (ansTo lv ev sk i h l j).length c3) (ansTo lv ev sk i h l j).length (i64s (ansTo lv ev sk i h l j))) ∧ Below Wd.heap.size Wd wj) (fun x _ => k0 - (intOf x).toNat)
            case atStart => exact ⟨0, Nat.zero_le _, rfl, ⟨none, 0, Bk.alloc_ _ _ _, World.ownsRow_nil _ _ _ _⟩, (by repeat (first | with_reducible exact Below.refl _ _ | with_reducible assumption | with_reducible refine Below.drew ?_ | with_reducible refine Below.drewN ?_ _ | with_reducible refine Below.alloc2 ?_ _ | with_reducible refine Below.alloc ?_ (by first | omega | (simp <;> omega)) _ | with_reducible refine Below.setCell ?_ (by first | omega | (simp <;> omega)) _ | with_reducible refine Below.step2 (by with_reducible assumption) ?_ | with_reducible refine Below.step (by with_reducible assumption) ?_ (by first | omega | (simp <;> omega))))⟩
            case round =>
              clear p0 p1 p2 r0 r1 r2 r3 r4 q0
              obtain ⟨j, hj, rfl, ⟨A3, c3, hbk, hown⟩, hb⟩ := hrel
              have HB := Lib.hid hb
              have HOWN := Lib.hid hown
              have HBK := Lib.hid hbk
              have oww := hb.size
              have hbS := HBd.out.trans (hb.mono HBd.out.size)
              have HBSW := Lib.hid hbS
              obtain ⟨⟨s0, s1, s2⟩, t0, t1, t2⟩ := hbk.three
              have odk := hbk.lt
              have hkgw : Bk wr w.heap.size 24 #[.int .i64 f, .slice A n c, .slice (some ⟨b, o, none⟩) (M + 1) c2] := (hbS.block _ okg).trans HKG.out
              have hkrw : Bk wr (w.heap.size + 1) 26 #[.int .i64 ev, .int .i64 fr, .int .i64 sk, .int .i64 ma, .int .i64 st] := (hbS.block _ okr).trans HKR.out
              have ogw := hkgw.lt
              have orw := hkrw.lt
              have HKGW := Lib.hid hkgw
              have HKRW := Lib.hid hkrw
              obtain ⟨⟨p0, p1, p2⟩, -⟩ := hkgw.three
              obtain ⟨r0, r1, r2, r3, r4⟩ := hkrw.five
              clear hkgw hkrw
              have q0 : wr.cell? ⟨bS, oS + k, none⟩ = some (.int .i64 h) := by
                obtain ⟨b3, o3, h', e3, -, hx, q0⟩ := (HNS.out.below hbS (Nat.le_refl _) hbS.size).at_ hltk
                obtain ⟨rfl, rfl⟩ : bS = b3 ∧ oS = o3 := by simpa using e3
                obtain rfl : h' = h := Option.some.inj (hx.symm.trans HX.out)
                exact q0
              have hal := HAL.out i h j
              clear hown hbk hbS
              by_cases hltj : j < k0
              · obtain ⟨b2, o2, x, rfl, hbb2, hxt, d0', d1'⟩ := (HTT.out _ (HBS.out.trans (HBSW.out.mono HBS.out.size))).at_ hltj
                obtain ⟨X1, X2, rfl, hX1, hX2⟩ := HNAT.out _ (List.mem_of_getElem? hxt)
                dsimp only at d0' d1'
                have ch1 := fun (W : World) (hb : Below w.heap.size w W) => CHO.out i h X1 X2 W hX2 (by omega) hxb.1 hxb.2 hb
                obtain ⟨B, hB⟩ : ∃ B, ansIn lv ev sk i h ((X1 : Int), (X2 : Int)) = B := ⟨_, rfl⟩
                rw [hB] at ch1
                have CH1 := Lib.hid ch1
                have HXT := Lib.hid hxt
                have HBB := Lib.hid hB
                have HBW : Hid (Below w.heap.size w wr) := Lib.hid (HBS.out.trans (HBSW.out.mono HBS.out.size))
                have x1 : (0 : Int) ≤ (j : Int) := by omega
                have x2 : (j : Int) < (k0 : Int) := by omega
                have ob2 : b2 < wr.heap.size := by have := HBW.out.size; omega
                have obs : bS < wr.heap.size := by omega
                clear ch1 hB hxt hb s0 s1 s2 t0 t1 t2
                cases B
                · have HE := Lib.hid (ansTo_no (lv := lv) (ev := ev) (sk := sk) (i := i) (h := h) HXT.out HBB.out)
                  go_wp2
                  go_region_held3 (fun w' => (w'.cell? ⟨w.heap.size, 0, none⟩ = some (.int .i64 f) ∧ w'.cell? ⟨w.heap.size, 1, none⟩ = some (.slice A n c) ∧ w'.cell? ⟨w.heap.size, 2, none⟩ = some (.slice (some ⟨b, o, none⟩) (M + 1) c2)) ∧ (w'.cell? ⟨w.heap.size + 1, 0, none⟩ = some (.int .i64 ev) ∧ w'.cell? ⟨w.heap.size + 1, 1, none⟩ = some (.int .i64 fr) ∧ w'.cell? ⟨w.heap.size + 1, 2, none⟩ = some (.int .i64 sk) ∧ w'.cell? ⟨w.heap.size + 1, 3, none⟩ = some (.int .i64 ma) ∧ w'.cell? ⟨w.heap.size + 1, 4, none⟩ = some (.int .i64 st)) ∧ (w'.cell? ⟨b2, o2 + j * 2, none⟩ = some (.int .i64 (X1 : Int)) ∧ w'.cell? ⟨b2, o2 + j * 2 + 1, none⟩ = some (.int .i64 (X2 : Int))) ∧ w'.cell? ⟨bS, oS + k, none⟩ = some (.int .i64 h)) (go_keep) ((go_at_call 50; with_reducible refine (CH1.out _ ?_).mono ?_; (focus (have hb0 := HBW.out; exact (by repeat (first | with_reducible exact Below.refl _ _ | with_reducible assumption | with_reducible refine Below.drew ?_ | with_reducible refine Below.drewN ?_ _ | with_reducible refine Below.alloc2 ?_ _ | with_reducible refine Below.alloc ?_ (by first | omega | (simp <;> omega)) _ | with_reducible refine Below.setCell ?_ (by first | omega | (simp <;> omega)) _ | with_reducible refine Below.step2 (by with_reducible assumption) ?_ | with_reducible refine Below.step (by with_reducible assumption) ?_ (by first | omega | (simp <;> omega)))))); rintro e w1 ⟨hb1, rfl⟩; obtain ⟨hc1, -⟩ := bcell hb1; have e1 := (hc1 b2 (o2 + j * 2) (Nat.lt_of_lt_of_eq ob2 (size_drewW wr).symm)).trans ((cell_drewW wr _).trans d0'); have e2 := (hc1 b2 (o2 + j * 2 + 1) (Nat.lt_of_lt_of_eq ob2 (size_drewW wr).symm)).trans ((cell_drewW wr _).trans d1'); have e3 := (hc1 bS (oS + k) (Nat.lt_of_lt_of_eq obs (size_drewW wr).symm)).trans ((cell_drewW wr _).trans q0); have kg : Bk w1 w.heap.size 24 #[.int .i64 f, .slice A n c, .slice (some ⟨b, o, none⟩) (M + 1) c2] := (by have hb0 := HKGW.out; exact (by repeat (first | with_reducible assumption | with_reducible exact Bk.at_ (by first | (simp; done) | omega) | with_reducible refine Bk.alloc ?_ _ | with_reducible refine Bk.drew ?_ | with_reducible refine Bk.drewN ?_ _ | with_reducible refine Bk.step (by with_reducible assumption) ?_ (by first | omega | (simp <;> omega))))); have kr : Bk w1 (w.heap.size + 1) 26 #[.int .i64 ev, .int .i64 fr, .int .i64 sk, .int .i64 ma, .int .i64 st] := (by have hb0 := HKRW.out; exact (by repeat (first | with_reducible assumption | with_reducible exact Bk.at_ (by first | (simp; done) | omega) | with_reducible refine Bk.alloc ?_ _ | with_reducible refine Bk.drew ?_ | with_reducible refine Bk.drewN ?_ _ | with_reducible refine Bk.step (by with_reducible assumption) ?_ (by first | omega | (simp <;> omega))))); obtain ⟨⟨g0, g1, g2⟩, -⟩ := kg.three; obtain ⟨f0, f1, f2, f3, f4⟩ := kr.five; clear kg kr hc1; have oz1 := hb1.size; (try simp at oz1); have HB1 : Hid (Below Wd.heap.size Wd w1) := Lib.hid (by have hb0 := HB.out; exact (by repeat (first | with_reducible exact Below.refl _ _ | with_reducible assumption | with_reducible refine Below.drew ?_ | with_reducible refine Below.drewN ?_ _ | with_reducible refine Below.alloc2 ?_ _ | with_reducible refine Below.alloc ?_ (by first | omega | (simp <;> omega)) _ | with_reducible refine Below.setCell ?_ (by first | omega | (simp <;> omega)) _ | with_reducible refine Below.step2 (by with_reducible assumption) ?_ | with_reducible refine Below.step (by with_reducible assumption) ?_ (by first | omega | (simp <;> omega))))); have hbk1 : Bk w1 Wd.heap.size 35 #[.int .i64 (i : Int), .int .i64 h, .slice A3 (ansTo lv ev sk i h l j).length c3] := (by have hb0 := HBK.out; exact (by repeat (first | with_reducible assumption | with_reducible exact Bk.at_ (by first | (simp; done) | omega) | with_reducible refine Bk.alloc ?_ _ | with_reducible refine Bk.drew ?_ | with_reducible refine Bk.drewN ?_ _ | with_reducible refine Bk.step (by with_reducible assumption) ?_ (by first | omega | (simp <;> omega))))); have HOWN1 := Lib.hid (own_step (w1 := wr.drew) (World.ownsRow.drew HOWN.out) hb1); have HBK1 := Lib.hid hbk1; obtain ⟨⟨s0, s1, s2⟩, t0, t1, t2⟩ := hbk1.three; have odk1 := hbk1.lt; clear hbk1))
                  go_wp2
                  go_roundw
                  case rel => exact ⟨j + 1, by omega, by go_num, ⟨A3, c3, by rw [HE.out]; exact HBK1.out, by rw [HE.out]; exact HOWN1.out⟩, HB1.out⟩
                  case measure => (simp [intOf]; omega)
                · have HE := Lib.hid (ansTo_yes (lv := lv) (ev := ev) (sk := sk) (i := i) (h := h) HXT.out HBB.out)
                  go_wp2
                  go_region_held3 (fun w' => (w'.cell? ⟨w.heap.size, 0, none⟩ = some (.int .i64 f) ∧ w'.cell? ⟨w.heap.size, 1, none⟩ = some (.slice A n c) ∧ w'.cell? ⟨w.heap.size, 2, none⟩ = some (.slice (some ⟨b, o, none⟩) (M + 1) c2)) ∧ (w'.cell? ⟨w.heap.size + 1, 0, none⟩ = some (.int .i64 ev) ∧ w'.cell? ⟨w.heap.size + 1, 1, none⟩ = some (.int .i64 fr) ∧ w'.cell? ⟨w.heap.size + 1, 2, none⟩ = some (.int .i64 sk) ∧ w'.cell? ⟨w.heap.size + 1, 3, none⟩ = some (.int .i64 ma) ∧ w'.cell? ⟨w.heap.size + 1, 4, none⟩ = some (.int .i64 st)) ∧ (w'.cell? ⟨b2, o2 + j * 2, none⟩ = some (.int .i64 (X1 : Int)) ∧ w'.cell? ⟨b2, o2 + j * 2 + 1, none⟩ = some (.int .i64 (X2 : Int))) ∧ w'.cell? ⟨bS, oS + k, none⟩ = some (.int .i64 h)) (go_keep) ((go_at_call 50; with_reducible refine (CH1.out _ ?_).mono ?_; (focus (have hb0 := HBW.out; exact (by repeat (first | with_reducible exact Below.refl _ _ | with_reducible assumption | with_reducible refine Below.drew ?_ | with_reducible refine Below.drewN ?_ _ | with_reducible refine Below.alloc2 ?_ _ | with_reducible refine Below.alloc ?_ (by first | omega | (simp <;> omega)) _ | with_reducible refine Below.setCell ?_ (by first | omega | (simp <;> omega)) _ | with_reducible refine Below.step2 (by with_reducible assumption) ?_ | with_reducible refine Below.step (by with_reducible assumption) ?_ (by first | omega | (simp <;> omega)))))); rintro e w1 ⟨hb1, rfl⟩; obtain ⟨hc1, -⟩ := bcell hb1; have e1 := (hc1 b2 (o2 + j * 2) (Nat.lt_of_lt_of_eq ob2 (size_drewW wr).symm)).trans ((cell_drewW wr _).trans d0'); have e2 := (hc1 b2 (o2 + j * 2 + 1) (Nat.lt_of_lt_of_eq ob2 (size_drewW wr).symm)).trans ((cell_drewW wr _).trans d1'); have e3 := (hc1 bS (oS + k) (Nat.lt_of_lt_of_eq obs (size_drewW wr).symm)).trans ((cell_drewW wr _).trans q0); have kg : Bk w1 w.heap.size 24 #[.int .i64 f, .slice A n c, .slice (some ⟨b, o, none⟩) (M + 1) c2] := (by have hb0 := HKGW.out; exact (by repeat (first | with_reducible assumption | with_reducible exact Bk.at_ (by first | (simp; done) | omega) | with_reducible refine Bk.alloc ?_ _ | with_reducible refine Bk.drew ?_ | with_reducible refine Bk.drewN ?_ _ | with_reducible refine Bk.step (by with_reducible assumption) ?_ (by first | omega | (simp <;> omega))))); have kr : Bk w1 (w.heap.size + 1) 26 #[.int .i64 ev, .int .i64 fr, .int .i64 sk, .int .i64 ma, .int .i64 st] := (by have hb0 := HKRW.out; exact (by repeat (first | with_reducible assumption | with_reducible exact Bk.at_ (by first | (simp; done) | omega) | with_reducible refine Bk.alloc ?_ _ | with_reducible refine Bk.drew ?_ | with_reducible refine Bk.drewN ?_ _ | with_reducible refine Bk.step (by with_reducible assumption) ?_ (by first | omega | (simp <;> omega))))); obtain ⟨⟨g0, g1, g2⟩, -⟩ := kg.three; obtain ⟨f0, f1, f2, f3, f4⟩ := kr.five; clear kg kr hc1; have oz1 := hb1.size; (try simp at oz1); have HB1 : Hid (Below Wd.heap.size Wd w1) := Lib.hid (by have hb0 := HB.out; exact (by repeat (first | with_reducible exact Below.refl _ _ | with_reducible assumption | with_reducible refine Below.drew ?_ | with_reducible refine Below.drewN ?_ _ | with_reducible refine Below.alloc2 ?_ _ | with_reducible refine Below.alloc ?_ (by first | omega | (simp <;> omega)) _ | with_reducible refine Below.setCell ?_ (by first | omega | (simp <;> omega)) _ | with_reducible refine Below.step2 (by with_reducible assumption) ?_ | with_reducible refine Below.step (by with_reducible assumption) ?_ (by first | omega | (simp <;> omega))))); have hbk1 : Bk w1 Wd.heap.size 35 #[.int .i64 (i : Int), .int .i64 h, .slice A3 (ansTo lv ev sk i h l j).length c3] := (by have hb0 := HBK.out; exact (by repeat (first | with_reducible assumption | with_reducible exact Bk.at_ (by first | (simp; done) | omega) | with_reducible refine Bk.alloc ?_ _ | with_reducible refine Bk.drew ?_ | with_reducible refine Bk.drewN ?_ _ | with_reducible refine Bk.step (by with_reducible assumption) ?_ (by first | omega | (simp <;> omega))))); have HOWN1 := Lib.hid (own_step (w1 := wr.drew) (World.ownsRow.drew HOWN.out) hb1); have HBK1 := Lib.hid hbk1; obtain ⟨⟨s0, s1, s2⟩, t0, t1, t2⟩ := hbk1.three; have odk1 := hbk1.lt; clear hbk1))
                  go_wp2_with (go_loud (at_builtin; refine wpList_append_own_at _ rfl _ _ _ rfl (Wd.heap.size + 1) 3 i0 _ 1 8 Tryz.underlying22 HI0.out HZ0.out HZ1.out HZ2.out rfl (by omega) _ _ _ rfl (HOWN1.out.alloc _) ⟨w1.heap.size, 0, none⟩ 1 1 [.int .i64 (j : Int)] rfl rfl (World.news_of_block (cs := #[.int .i64 (j : Int)]) (t := 3) (fr := (0, 0)) (heap_alloc_new w1 _)) (by intro u hu; simp at hu; subst hu; rfl) (by unfold maxLen; omega) (by omega) (by simp; omega) ?_; intro v1 w2 hown2 hg2 _ _; obtain ⟨A4, c4, rfl, -, -⟩ := Sl.of_own hown2; have hbk2 : Bk w2 Wd.heap.size 35 #[.int .i64 (i : Int), .int .i64 h, .slice A3 (ansTo lv ev sk i h l j).length c3] := (hg2.block _ (by simp; omega) (fun e => by have := (HOWN1.out.lt _ e.symm).1; omega)).trans (HBK1.out.alloc _); obtain ⟨⟨v0, v1, v2⟩, u0, u1, u2⟩ := hbk2.three; have odk2 := hbk2.lt; have HOWN2 := Lib.hid hown2; have HG2 := Lib.hid hg2; have HBK2 := Lib.hid hbk2; clear hown2 hg2 hbk2))
                  go_roundw
                  case rel =>
                    have hlen : (ansTo lv ev sk i h l (j + 1)).length = (ansTo lv ev sk i h l j).length + 1 := by rw [HE.out, List.length_append]; rfl
                    refine ⟨j + 1, by omega, by go_num, ⟨A4, c4, ?_, ?_⟩, ?_⟩
                    · rw [hlen]
                      have := HBK2.out.set_ 2 (.slice A4 ((ansTo lv ev sk i h l j).length + 1) c4)
                      simpa using this
                    · rw [hlen]
                      refine own_setW ?_ (by omega) _ _
                      have := HOWN2.out
                      rw [HE.out]
                      simpa [i64s] using this
                    · have hb0 := HB1.out
                      have hbl : Below Wd.heap.size Wd (w1.alloc (.cells #[.int .i64 (j : Int)] 3)) := hb0.alloc hb0.size _
                      exact (hbl.grown HG2.out (by simp; omega) (fun q hq => by have := (HOWN1.out.lt _ hq).1; omega)).setCell (by exact Nat.le_refl _) _
                  case measure => (simp [intOf]; omega)
              · obtain rfl : j = k0 := by omega
                have HOWNA := Lib.hid (own_step HOWNd.out HB.out)
                clear hb
                go_wp2_with (go_loud (at_builtin; refine wpList_append_own_at _ rfl _ _ _ rfl wS.heap.size 35 d0 _ 3 40 Tryz.underlying30 HD0.out HD1.out HD2.out HD3.out rfl (by omega) _ _ _ rfl (HOWNA.out.alloc _) ⟨wr.heap.size, 0, none⟩ 1 1 [.int .i64 (i : Int), .int .i64 h, .slice A3 (ansTo lv ev sk i h l j).length c3] rfl rfl (World.news_of_block (cs := #[.int .i64 (i : Int), .int .i64 h, .slice A3 (ansTo lv ev sk i h l j).length c3]) (t := 35) (fr := (0, 0)) (heap_alloc_new wr _)) (by intro u hu; simp at hu; rcases hu with rfl | rfl | rfl <;> rfl) (by unfold maxLen; omega) (by omega) (by simp; omega) ?_; intro v1 w1 hown1 hg1 _ hor; have HO1 := Lib.hid hown1; have HG1 := Lib.hid hg1; have HOR := Lib.hid hor; clear hown1 hg1 hor))
                go_roundw
                case rel =>
                  have hb0 := HBSW.out
                  refine ⟨k + 1, by omega, by go_num, ⟨ls ++ [(⟨i, h, ansTo lv ev sk i h l j⟩, (A3, c3))], Lib.hid ?_, ?_, ?_⟩, ?_⟩
                  · rw [List.map_append, HM.out, HE.out, List.map_append]
                    simp [mkDem]
                  · have := HO1.out
                    rw [dcells_append]
                    simpa [dcells] using this
                  · exact LaidBut.snoc (wx := wr.alloc (.cells #[.int .i64 (i : Int), .int .i64 h, .slice A3 (ansTo lv ev sk i h l j).length c3] 35)) HLDd.out (fun k hk => (HOWNd.out.lt k hk).2) HB.out (own_mono HOWN.out (by omega)) ((Below.refl _ _).alloc (Nat.le_refl _) _) HG1.out HOR.out
                  · have hbl : Below wS.heap.size wS (wr.alloc (.cells #[.int .i64 (i : Int), .int .i64 h, .slice A3 (ansTo lv ev sk i h l j).length c3] 35)) := hb0.alloc hb0.size _
                    exact hbl.grown HG1.out (by simp; omega) (fun q hq => by have := (HOWNd.out.lt _ hq).1; omega)
                case measure => (simp [intOf]; omega)
          · have g1 : xS - h ≤ fr := by omega
            have g2 : decide (xS - h ≤ fr) = true := by simpa using g1
            have HE : Hid (wantTo (0 :: lv) xS fr (k + 1) = wantTo (0 :: lv) xS fr k) := Lib.hid (wantTo_no HX.out h1)
            clear h1
            go_wp2
            go_quiet (fail)
            go_wp2
            go_roundw
            case rel =>
              have hb0 := HB.out
              refine ⟨k + 1, by omega, by go_num, ⟨ls, by rw [HE.out]; exact HM, HOWN.out, ?_⟩, (by repeat (first | with_reducible exact Below.refl _ _ | with_reducible assumption | with_reducible refine Below.drew ?_ | with_reducible refine Below.drewN ?_ _ | with_reducible refine Below.alloc2 ?_ _ | with_reducible refine Below.alloc ?_ (by first | omega | (simp <;> omega)) _ | with_reducible refine Below.setCell ?_ (by first | omega | (simp <;> omega)) _ | with_reducible refine Below.step2 (by with_reducible assumption) ?_ | with_reducible refine Below.step (by with_reducible assumption) ?_ (by first | omega | (simp <;> omega))))⟩
              intro w' hw'
              exact HLD.out w' ⟨hw'.os, hw'.tape, hw'.output, hw'.size, hw'.block⟩
            case measure => (simp [intOf]; omega)
        · obtain rfl : k = 1 + (M + 1) := by omega
          clear hb
          go_wp2
          go_roundw
          case rel => exact ⟨i + 1, by omega, by go_num, ⟨ls, Lib.hid (by rw [HM.out, HHS.out]; simp only [demAll, HROW.out]), HOWN.out, HLD.out⟩, HB.out⟩
          case measure => (simp [intOf]; omega)
    · obtain rfl : i = n := by omega
      obtain ⟨A5, c5, rfl, hs, -⟩ := Sl.of_own HOWN.out
      have HSL := Lib.hid hs
      have HL2 : Hid (ls.length = (demAll lv HS ev sk l k0 i).length) := Lib.hid (by rw [← HM.out, List.length_map])
      clear hs
      go_wp2
      go_ret
      have h1 := HL2.out
      refine ⟨HBS.out.trans (HB.out.mono HBS.out.size), A5, c5, by rw [← h1]; rfl, ls, HM.out, by rw [← h1]; exact HSL.out, HLD.out.now⟩

end Go.Proofs.YtgljncfijcamhaaGreatDoor
