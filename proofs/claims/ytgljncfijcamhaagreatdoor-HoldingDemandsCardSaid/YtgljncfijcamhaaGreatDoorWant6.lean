/- Chapter 6, walks: the heights that want a tie. -/
import Derived.Test.YtgljncfijcamhaaGreatDoorHts6
namespace Go.Proofs.YtgljncfijcamhaaGreatDoor
open Go.RowKit

theorem info_intW : (Tryz.prog.info? 3).map (fun i => (i.zero, i.size, i.bytes)) = some (some (.int .i64 0), 1, 8) := by kernel_rfl
/-- Of some heights those more than so far below the top. -/
def wantTo (hs : List Int) (top fr : Int) : Nat → List Int
  | 0 => []
  | k + 1 => if fr < top - hs.getD k 0 then wantTo hs top fr k ++ [hs.getD k 0] else wantTo hs top fr k
def topOf (lv : List Int) : Int := lv.getD (lv.length - 1) 0
def wants (lv : List Int) (fr : Int) : List Int := wantTo (0 :: lv) (topOf lv) fr (lv.length + 1)
theorem wantTo_yes {hs : List Int} {top fr x : Int} {k : Nat} (hx : hs[k]? = some x) (h : fr < top - x) : wantTo hs top fr (k + 1) = wantTo hs top fr k ++ [x] := by
  simp only [wantTo, getD_of hx]
  rw [if_pos h]
theorem wantTo_no {hs : List Int} {top fr x : Int} {k : Nat} (hx : hs[k]? = some x) (h : ¬ fr < top - x) : wantTo hs top fr (k + 1) = wantTo hs top fr k := by
  simp only [wantTo, getD_of hx]
  rw [if_neg h]
theorem wantTo_len {hs : List Int} {top fr : Int} : ∀ k, (wantTo hs top fr k).length ≤ k
  | 0 => by simp [wantTo]
  | k + 1 => by
    have := wantTo_len (hs := hs) (top := top) (fr := fr) k
    simp only [wantTo]
    split
    · simp; omega
    · omega
theorem wantTo_mem {hs : List Int} {top fr h : Int} : ∀ {k : Nat}, h ∈ wantTo hs top fr k ↔ (∃ j, j < k ∧ h = hs.getD j 0) ∧ fr < top - h
  | 0 => by simp [wantTo]
  | k + 1 => by
    simp only [wantTo]
    have ih := wantTo_mem (hs := hs) (top := top) (fr := fr) (h := h) (k := k)
    split
    · rename_i h1
      simp only [List.mem_append, List.mem_singleton, ih]
      constructor
      · rintro (⟨⟨j, hj, e⟩, h2⟩ | rfl)
        · exact ⟨⟨j, by omega, e⟩, h2⟩
        · exact ⟨⟨k, by omega, rfl⟩, h1⟩
      · rintro ⟨⟨j, hj, e⟩, h2⟩
        rcases Nat.lt_or_ge j k with h3 | h3
        · exact .inl ⟨⟨j, h3, e⟩, h2⟩
        · obtain rfl : j = k := by omega
          exact .inr e
    · rename_i h1
      rw [ih]
      constructor
      · rintro ⟨⟨j, hj, e⟩, h2⟩
        exact ⟨⟨j, by omega, e⟩, h2⟩
      · rintro ⟨⟨j, hj, e⟩, h2⟩
        rcases Nat.lt_or_ge j k with h3 | h3
        · exact ⟨⟨j, h3, e⟩, h2⟩
        · obtain rfl : j = k := by omega
          rw [e] at h2
          exact absurd h2 h1
set_option maxRecDepth 100000 in
set_option maxHeartbeats 8000000 in
theorem wanting_any (f : Int) (A A2 : Option Addr) (n c m c2 : Nat) (ev fr sk ma st : Int) (lv : List Int) (w : World) (hl : Nums w w.heap.size A2 m c2 lv) (hm1 : 1 ≤ m) (hm : m ≤ 60) (bl : allIn 1 1000000 lv = true) :
    Calls Tryz.prog 46 #[.agg #[.int .i64 f, .slice A n c, .slice A2 m c2], .agg #[.int .i64 ev, .int .i64 fr, .int .i64 sk, .int .i64 ma, .int .i64 st]] w fun e w' => Below w.heap.size w w' ∧ ∃ A' n' c', e = .returned (.slice A' n' c') ∧ Nums w' w'.heap.size A' n' c' (wants lv fr) := by
  obtain ⟨M, rfl⟩ : ∃ M, m = M + 1 := ⟨m - 1, by omega⟩
  have hcap := hl.cap
  have hmax := hl.max
  have HLEN := Lib.hid hl.len
  obtain ⟨b, o, T, rfl, hbb, hT, c0⟩ := hl.at_ (k := M) (by omega)
  have HL : Hid (∀ w', Below w.heap.size w w' → Nums w' w.heap.size (some ⟨b, o, none⟩) (M + 1) c2 lv) := fun w' hb => hl.below hb (Nat.le_refl _) (Nat.le_refl _)
  have HNEWS : Hid (∀ w', Below w.heap.size w w' → ∀ j u, (i64s lv)[j]? = some u → w'.cell? ((⟨b, o, none⟩ : Addr).add j) = some u) := Lib.hid fun w' hb j u hu => by
    obtain ⟨b', o', e, _, hc⟩ := (HL.out w' hb).sl.cells (by omega)
    simp only [Option.some.injEq, Addr.mk.injEq, and_true] at e
    obtain ⟨rfl, rfl⟩ := e
    rw [add_at]
    exact hc j u hu
  have HTOP : Hid (topOf lv = T) := Lib.hid (by unfold topOf; rw [HLEN.out]; exact getD_of hT)
  have HBD : Hid (∀ (k : Nat) (x : Int), (0 :: lv)[k]? = some x → 0 ≤ x ∧ x ≤ 1000000) := Lib.hid fun k x hx => by
    match k, hx with
    | 0, hx => simp at hx; omega
    | k + 1, hx =>
      have := List.all_eq_true.1 bl x (List.mem_of_getElem? (i := k) (by simpa using hx))
      simp at this
      omega
  have hTb : 0 ≤ T ∧ T ≤ 1000000 := HBD.out (M + 1) T (by simpa using hT)
  have hwM : IntKind.i64.wrap (((M + 1 : Nat) : Int) - 1) = (M : Int) := by rw [IntWalk.i64_in _ (by omega)]; omega
  have hwM2 : IntKind.i64.wrap ((M : Int) + 1 - 1) = (M : Int) := by rw [IntWalk.i64_in _ (by omega)]; omega
  have hwM3 : IntKind.i64.wrap (M : Int) = (M : Int) := IntWalk.i64_in _ (by omega)
  have z1 : (0 : Int) ≤ (M : Int) := by omega
  have z2 : (M : Int) < ((M + 1 : Nat) : Int) := by omega
  have z3 : (M : Int) < (M : Int) + 1 := by omega
  obtain ⟨i0, hi0, hq0, hq1, hq2⟩ := info_parts info_intW
  have HI0 := Lib.hid hi0
  have HZ0 := Lib.hid hq0
  have HZ1 := Lib.hid hq1
  have HZ2 := Lib.hid hq2
  unfold wants
  rw [HTOP.out, show lv.length + 1 = 1 + (M + 1) from by have := HLEN.out; omega]
  clear hi0 hq0 hq1 hq2 hl hT bl
  go_enter Tryz.func46, Tryz.ntmps46
  go_wp2_with (go_loud (at_builtin; refine wpList_append_own_at _ rfl _ _ _ rfl (w.heap.size + 2) 3 i0 _ 1 8 Tryz.underlying22 HI0.out HZ0.out HZ1.out HZ2.out rfl (by omega) (.slice (some ⟨w.heap.size + 1 + 1, 0, none⟩) 1 1) 1 [.int .i64 0] rfl (by have := World.ownsRow_lit (base := w.heap.size + 2) (e := 3) (size := 1) ((w.alloc (.cells #[.int .i64 f, .slice A n c, .slice (some ⟨b, o, none⟩) (M + 1) c2] 24)).alloc (.cells #[.int .i64 ev, .int .i64 fr, .int .i64 sk, .int .i64 ma, .int .i64 st] 26)) #[.int .i64 0] 1 (by simp) (by unfold maxLen; omega) rfl; simpa using this) ⟨b, o, none⟩ (M + 1) c2 (i64s lv) rfl (by rw [i64s_length]; have := HLEN.out; omega) ?_ (by intro u hu; simp [i64s] at hu; obtain ⟨x, _, rfl⟩ := hu; rfl) (by unfold maxLen; omega) (by omega) (by simp) ?_; (focus (exact HNEWS.out _ (by exact (by repeat (first | with_reducible exact Below.refl _ _ | with_reducible assumption | with_reducible refine Below.drew ?_ | with_reducible refine Below.drewN ?_ _ | with_reducible refine Below.alloc2 ?_ _ | with_reducible refine Below.alloc ?_ (by first | omega | (simp <;> omega)) _ | with_reducible refine Below.setCell ?_ (by first | omega | (simp <;> omega)) _ | with_reducible refine Below.step2 (by with_reducible assumption) ?_ | with_reducible refine Below.step (by with_reducible assumption) ?_ (by first | omega | (simp <;> omega))))))); intro v1 wS hownS hgS _ _; have kg1 : Bk wS w.heap.size 24 #[.int .i64 f, .slice A n c, .slice (some ⟨b, o, none⟩) (M + 1) c2] := (hgS.block _ (by first | (simp; done) | (simp; omega) | omega) (by simp [Value.ownBlock] <;> omega)).trans (show Bk _ _ _ _ from (by repeat (first | with_reducible assumption | with_reducible exact Bk.at_ (by first | (simp; done) | omega) | with_reducible refine Bk.alloc ?_ _ | with_reducible refine Bk.drew ?_ | with_reducible refine Bk.drewN ?_ _ | with_reducible refine Bk.step (by with_reducible assumption) ?_ (by first | omega | (simp <;> omega))))); have kr1 : Bk wS (w.heap.size + 1) 26 #[.int .i64 ev, .int .i64 fr, .int .i64 sk, .int .i64 ma, .int .i64 st] := (hgS.block _ (by first | (simp; done) | (simp; omega) | omega) (by simp [Value.ownBlock] <;> omega)).trans (show Bk _ _ _ _ from (by repeat (first | with_reducible assumption | with_reducible exact Bk.at_ (by first | (simp; done) | omega) | with_reducible refine Bk.alloc ?_ _ | with_reducible refine Bk.drew ?_ | with_reducible refine Bk.drewN ?_ _ | with_reducible refine Bk.step (by with_reducible assumption) ?_ (by first | omega | (simp <;> omega))))); have hbS : Below w.heap.size w wS := Below.grown (by exact (by repeat (first | with_reducible exact Below.refl _ _ | with_reducible assumption | with_reducible refine Below.drew ?_ | with_reducible refine Below.drewN ?_ _ | with_reducible refine Below.alloc2 ?_ _ | with_reducible refine Below.alloc ?_ (by first | omega | (simp <;> omega)) _ | with_reducible refine Below.setCell ?_ (by first | omega | (simp <;> omega)) _ | with_reducible refine Below.step2 (by with_reducible assumption) ?_ | with_reducible refine Below.step (by with_reducible assumption) ?_ (by first | omega | (simp <;> omega))))) hgS (by simp; omega) (by intro k hk; simp [Value.ownBlock] at hk; omega); obtain ⟨A', c', rfl, hNS⟩ := Nums.of_own (l := 0 :: lv) (by simpa [i64s] using hownS); have HNS := Lib.hid hNS; have HKR := Lib.hid kr1; have HKG := Lib.hid kg1; have HBS := Lib.hid hbS; clear hownS hgS hNS kg1 kr1 hbS))
  have hcapS := HNS.out.cap
  have hmaxS := HNS.out.max
  go_loopw [6, 8, 22] (fun v _ x wr => ∃ k : Nat, k ≤ 1 + (M + 1) ∧ x = .int .i64 k ∧ wr.ownsRow wS.heap.size 3 1 v (wantTo (0 :: lv) T fr k).length (i64s (wantTo (0 :: lv) T fr k)) ∧ Below wS.heap.size wS wr) (fun _ _ x _ => 1 + (M + 1) - (intOf x).toNat)
  case atStart => exact ⟨0, Nat.zero_le _, rfl, World.ownsRow_nil _ _ _ _, Below.refl _ _⟩
  case round =>
    obtain ⟨k, hk, rfl, hown, hb⟩ := hrel
    have HB := Lib.hid hb
    have HOWN := Lib.hid hown
    have ow := hb.size
    have hal := wantTo_len (hs := 0 :: lv) (top := T) (fr := fr) k
    have okr := HKR.out.lt
    obtain ⟨r0, r1, r2, r3, r4⟩ := Bk.five (show Bk wr (w.heap.size + 1) 26 #[.int .i64 ev, .int .i64 fr, .int .i64 sk, .int .i64 ma, .int .i64 st] from (hb.block _ okr).trans HKR.out)
    clear hown
    by_cases hlt : k < 1 + (M + 1)
    · obtain ⟨b2, o2, x, rfl, hbb2, hx, d0⟩ := (HNS.out.below hb (Nat.le_refl _) hb.size).at_ hlt
      have hxb := HBD.out k x hx
      obtain ⟨S, hS⟩ : ∃ S, T - x = S := ⟨_, rfl⟩
      have hw1 : IntKind.i64.wrap (T - x) = S := by rw [hS]; exact IntWalk.i64_in _ (by omega)
      by_cases h1 : fr < S
      · have HE := Lib.hid (wantTo_yes (fr := fr) hx (by rw [hS]; exact h1))
        clear hb hx hS
        go_wp2_with (go_loud (at_builtin; refine wpList_append_own_at _ rfl _ _ _ rfl wS.heap.size 3 i0 _ 1 8 Tryz.underlying22 HI0.out HZ0.out HZ1.out HZ2.out rfl (by omega) _ _ _ rfl (HOWN.out.alloc _) ⟨wr.heap.size, 0, none⟩ 1 1 [.int .i64 x] rfl rfl (World.news_of_block (cs := #[.int .i64 x]) (t := 3) (fr := (0, 0)) (heap_alloc_new wr _)) (by intro u hu; simp at hu; subst hu; rfl) (by unfold maxLen; omega) (by omega) (by simp; omega) ?_; intro v1 w1 hown1 hg1 _ _; have HO1 := Lib.hid hown1; have HG1 := Lib.hid hg1; clear hown1 hg1))
        go_roundw
        case rel =>
          have hb0 := HB.out
          refine ⟨k + 1, by omega, by go_num, ?_, ?_⟩
          · have := HO1.out
            rw [HE.out]
            simpa [i64s] using this
          · exact (Below.alloc hb0 hb0.size _).grown HG1.out (by simp; omega) (fun q hq => by have := (HOWN.out.lt _ hq).1; omega)
        case measure => (simp [intOf]; omega)
      · have HE := Lib.hid (wantTo_no (fr := fr) hx (by rw [hS]; exact h1))
        clear hb hx hS
        go_wp2
        go_roundw
        case rel => exact ⟨k + 1, by omega, by go_num, by rw [HE.out]; exact HOWN.out, HB.out⟩
        case measure => (simp [intOf]; omega)
    · obtain rfl : k = 1 + (M + 1) := by omega
      obtain ⟨A', c', rfl, hs⟩ := Nums.of_own HOWN.out
      have HS := Lib.hid hs
      clear hs hb
      go_wp2
      go_ret
      exact ⟨HBS.out.trans (HB.out.mono HBS.out.size), _, _, _, rfl, HS.out⟩

end Go.Proofs.YtgljncfijcamhaaGreatDoor
