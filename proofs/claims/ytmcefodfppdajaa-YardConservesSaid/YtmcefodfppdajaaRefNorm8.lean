/- Chapter 8, walks: the reference's Normal. -/
import Derived.Test.YtmcefodfppdajaaRefPut8
import Derived.Test.YtmcefodfppdajaaNorm8
namespace Go.Proofs.Ytmcefodfppdajaa
open Go.RowKit Go.Deep

theorem asc_nodup {L : List Q4} (h : Asc L) : (L.map keyQ).Nodup := by
  unfold List.Nodup
  rw [List.pairwise_map]
  exact h.imp fun {a b} hab e => by rw [e, ltK_irrefl] at hab; cases hab
theorem many_eq {L : List Q4} {c : Sh → Int} (h : Asc L) (hc : ∀ k, cntS L k = c k) (hf : Fin_ c) : manyL L = manyB c := by
  have hk : Keys shOk (nz c) (nzL L).length := by
    refine ⟨(nzL L).map keyQ, asc_nodup (h.filter _), fun k => ?_, by simp⟩
    constructor
    · intro hm
      obtain ⟨x, hx, rfl⟩ := List.mem_map.1 hm
      obtain ⟨h1, h2⟩ := List.mem_filter.1 hx
      have h3 : c (keyQ x) ≠ 0 := by rw [← hc, asc_mem h h1]; simpa using h2
      exact ⟨hf _ h3, (nz_some c _).2 h3⟩
    · rintro ⟨-, hs⟩
      have h3 := (nz_some c k).1 hs
      by_cases he : ∃ x ∈ L, keyQ x = k
      · obtain ⟨x, hx, rfl⟩ := he
        refine List.mem_map.2 ⟨x, List.mem_filter.2 ⟨hx, ?_⟩, rfl⟩
        rw [← hc, asc_mem h hx] at h3
        simpa using h3
      · exact absurd ((hc k).symm.trans (cntS_none fun x hx e => he ⟨x, hx, e⟩)) h3
  cases h1 : L.any fun x => decide (1000000 < x.c) with
  | true =>
    obtain ⟨x, hx, hb⟩ := List.any_eq_true.1 h1
    have hb := of_decide_eq_true hb
    have h3 : c (keyQ x) = x.c := by rw [← hc, asc_mem h hx]
    rw [manyB_over (k := keyQ x) (hf _ (by omega)) (by omega)]
    simp [manyL, h1]
  | false =>
    rw [manyB_keys hk fun k hk' hs => ?_]
    · simp only [manyL, h1, Bool.false_or]
      congr 1
      simp
      omega
    · intro hb
      by_cases he : ∃ x ∈ L, keyQ x = k
      · obtain ⟨x, hx, rfl⟩ := he
        have h3 : c (keyQ x) = x.c := by rw [← hc, asc_mem h hx]
        have := List.any_eq_false.1 h1 x hx
        simp at this
        omega
      · have := (hc k).symm.trans (cntS_none fun x hx e => he ⟨x, hx, e⟩)
        omega
def setE : Bool → Int
  | true => 8
  | false => 0
def setL (M : Bool) (L : List Q4) : List Q4 := match M with
  | true => []
  | false => nzL L
theorem nzL_step {L : List Q4} {k : Nat} {x : Q4} (h : L[k]? = some x) : nzL (L.take (k + 1)) = nzL (L.take k) ++ (if x.c ≠ 0 then [x] else []) := by
  unfold nzL
  rw [take_step h, List.filter_append]
  congr 1
  by_cases h0 : x.c = 0
  · simp [h0]
  · simp [h0]
theorem nzL_le (L : List Q4) : (nzL L).length ≤ L.length := List.length_filter_le _ _
theorem many_low {L : List Q4} (h : manyL L = false) {x : Q4} (hx : x ∈ L) : ¬ 1000000 < x.c := by
  unfold manyL at h
  rw [Bool.or_eq_false_iff] at h
  have := List.any_eq_false.1 h.1 x hx
  simpa using this
set_option maxRecDepth 100000 in
set_option maxHeartbeats 8000000 in
theorem settled_any (A : Option Addr) (n ca : Nat) (L : List Q4) (w : World) (h : Rws Q4.cs 4 w w.heap.size A n ca L) (hn : n ≤ 10000) :
    Calls Try.prog 61 #[.slice A n ca] w fun e w' => Below w.heap.size w w' ∧ ∃ v, e = .returned (.tuple #[v, .int .i64 (setE (manyL L))]) ∧ w'.ownsRow w.heap.size 103 4 v (setL (manyL L) L).length ((setL (manyL L) L).flatMap Q4.cs) := by
  have hcap := h.cap
  have hmax := h.max
  have HLEN := Lib.hid h.len
  have H : Hid (∀ w', Below w.heap.size w w' → Rws Q4.cs 4 w' w.heap.size A n ca L) := Lib.hid fun w' hb => h.below hb (Nat.le_refl _) (Nat.le_refl _)
  obtain ⟨M, hM⟩ : ∃ M, manyL L = M := ⟨_, rfl⟩
  have HM := Lib.hid hM
  rw [hM]
  clear h hM
  go_enter Try.func61, Try.ntmps61
  go_wp2
  go_loopw [4, 5] (fun v i wr => ∃ k : Nat, k ≤ n ∧ i = .int .i64 k ∧ Hid (wr.ownsRow w.heap.size 103 4 v (nzL (L.take k)).length ((nzL (L.take k)).flatMap Q4.cs)) ∧ Hid (∀ x ∈ L.take k, ¬ 1000000 < x.c) ∧ Hid (Below w.heap.size w wr)) (fun _ i _ => n - (intOf i).toNat)
  case atStart => exact ⟨0, Nat.zero_le _, rfl, Lib.hid (World.ownsRow_nil _ _ _ _), Lib.hid (fun x hx => by simp at hx), Lib.hid (Below.refl _ _)⟩
  case round =>
    obtain ⟨k, hk, rfl, HO, HA, HB⟩ := hrel
    have ow := HB.out.size
    have hes : (nzL (L.take k)).length ≤ k := Nat.le_trans (nzL_le _) (by simp; omega)
    by_cases hlt : k < n
    · obtain ⟨b, o, ⟨ys, ya, yb, yc⟩, rfl, hbb, hy, c0, c1, c2, c3⟩ := (H.out _ HB.out).q4 hlt
      dsimp only at c0 c1 c2 c3
      have HY := Lib.hid hy
      have HST := Lib.hid (nzL_step hy)
      have HIN := Lib.hid (List.mem_of_getElem? hy)
      have ob : b < wr.heap.size := by omega
      clear hy
      by_cases h1 : 1000000 < yc
      · have HM1 : Hid (true = M) := Lib.hid (by
          rw [← HM.out]
          cases hh : manyL L with
          | true => rfl
          | false => exact absurd h1 (many_low hh HIN.out))
        go_wp2
        go_ret2
        refine ⟨HB.out, .slice none 0 0, ?_, ?_⟩
        · rw [← HM1.out]; rfl
        · rw [← HM1.out]; exact World.ownsRow_nil _ _ _ _
      · have HA2 : Hid (∀ x ∈ L.take (k + 1), ¬ 1000000 < x.c) := Lib.hid (by
          rw [take_step HY.out]
          intro x hx
          rcases List.mem_append.1 hx with hx | hx
          · exact HA.out x hx
          · rw [List.mem_singleton.1 hx]; exact h1)
        by_cases h0 : yc = 0
        · have hq : (yc != 0) = false := by simpa using h0
          have HL2 : Hid (nzL (L.take (k + 1)) = nzL (L.take k)) := Lib.hid (by rw [HST.out, if_neg (by simpa using h0), List.append_nil])
          clear h0
          go_wp2
          go_roundw
          case rel =>
            refine ⟨k + 1, by omega, by go_num, Lib.hid ?_, HA2, HB⟩
            rw [HL2.out]
            exact HO.out
          case measure => simp [intOf]; omega
        · have hq : (yc != 0) = true := by simpa using h0
          have HL2 : Hid (nzL (L.take (k + 1)) = nzL (L.take k) ++ [⟨ys, ya, yb, yc⟩]) := Lib.hid (by rw [HST.out, if_pos (by simpa using h0)])
          clear h0
          go_wp2_with (at_builtin; go_loud (refine app_st (W := nzL (L.take k)) (HO.out.alloc _) rfl _ _ rfl rfl ⟨ys, ya, yb, yc⟩ _ rfl (Bk.at_ rfl) (by omega) (by simp; omega) ?_; intro v5 w5 ho5 hg5; rw [← HL2.out] at ho5; have HO5 := Lib.hid ho5; have HB5 : Hid (Below w.heap.size w w5) := Lib.hid (Below.grown_ (HB.out.alloc HB.out.size _) hg5 (by simp; omega) (fun q hq => by have := (HO.out.lt q hq).1; omega)); clear ho5 hg5))
          go_roundw
          case rel => exact ⟨k + 1, by omega, by go_num, HO5, HA2, HB5⟩
          case measure => simp [intOf]; omega
    · obtain rfl : k = n := by omega
      have hkl : L.take k = L := List.take_of_length_le (by rw [HLEN.out]; omega)
      rw [hkl] at HO HA hes
      have hlen := HO.out.1
      obtain ⟨A2, c2, rfl, HR⟩ := Rws.of_own HO.out rfl
      by_cases hb : 200 < (nzL L).length
      · have HM1 : Hid (true = M) := Lib.hid (by rw [← HM.out]; simp [manyL, hb])
        go_wp2
        go_ret2
        refine ⟨HB.out, .slice none 0 0, ?_, ?_⟩
        · rw [← HM1.out]; rfl
        · rw [← HM1.out]; exact World.ownsRow_nil _ _ _ _
      · have HM1 : Hid (false = M) := Lib.hid (by
          rw [← HM.out]
          symm
          unfold manyL
          rw [Bool.or_eq_false_iff]
          exact ⟨List.any_eq_false.2 fun x hx => by simpa using HA.out x hx, by simpa using hb⟩)
        go_wp2
        go_ret2
        refine ⟨HB.out, .slice A2 (nzL L).length c2, ?_, ?_⟩
        · rw [← HM1.out]; rfl
        · rw [← HM1.out]; exact HO.out

/-- Counts that sums bear. -/
def Bd8 (c : Sh → Int) : Prop := ∀ k, -100000000000 ≤ c k ∧ c k ≤ 100000000000
theorem bd8_mem {L : List Q4} {c : Sh → Int} (h : Asc L) (hc : ∀ k, cntS L k = c k) (hb : Bd8 c) : ∀ y ∈ L, -1000000000000 ≤ y.c ∧ y.c ≤ 1000000000000 := fun y hy => by
  have := hb (keyQ y)
  rw [← hc, asc_mem h hy] at this
  omega
theorem bd8_cnt {l : List Q4} (hs : ∀ x ∈ l, x.s.size ≤ 30) (hv : ∀ x ∈ l, sE x = 0) (hn : l.length ≤ 10000) : Bd8 (cntS l) := fun k => by
  have := cntS_bd (k := k) (l := l) fun x hx => (sE_sh (hv x hx) (hs x hx)).2
  omega
theorem foldL_c {l : List Q4} (k : Sh) : cntS (foldL l) k = cntS l k := foldL_cnt k l
set_option maxRecDepth 100000 in
set_option maxHeartbeats 8000000 in
theorem refNormal_any (A : Option Addr) (n ca : Nat) (l : List Q4) (w : World) (h : Rws Q4.cs 4 w w.heap.size A n ca l) (hn : n ≤ 1000) (hs : ∀ x ∈ l, x.s.size ≤ 30) (hv : ∀ x ∈ l, sE x = 0) :
    Calls Try.prog 19 #[.slice A n ca] w fun e w' => Below w.heap.size w w' ∧ ∃ v, e = .returned (.tuple #[v, .int .i64 (setE (manyL (foldL l)))]) ∧ w'.ownsRow w.heap.size 103 4 v (setL (manyL (foldL l)) (foldL l)).length ((setL (manyL (foldL l)) (foldL l)).flatMap Q4.cs) := by
  have hcap := h.cap
  have hmax := h.max
  have HLEN := Lib.hid h.len
  have H : Hid (∀ w', Below w.heap.size w w' → Rws Q4.cs 4 w' w.heap.size A n ca l) := Lib.hid fun w' hb => h.below hb (Nat.le_refl _) (Nat.le_refl _)
  have HV := Lib.hid hv
  have HS := Lib.hid hs
  have hlen := h.len
  have PT : Hid (∀ (k : Nat) (x : Q4) (v : Value) (W : World), l[k]? = some x → W.ownsRow w.heap.size 103 4 v (foldL (l.take k)).length ((foldL (l.take k)).flatMap Q4.cs) → w.heap.size ≤ W.heap.size → Calls Try.prog 60 #[v, .agg #[.string x.s, .int .i64 x.a, .int .i64 x.b, .int .i64 x.c]] W fun e w' => Below W.heap.size W w' ∧ ∃ v, e = .returned v ∧ w'.ownsRow w.heap.size 103 4 v (foldL (l.take (k + 1))).length ((foldL (l.take (k + 1))).flatMap Q4.cs)) := Lib.hid fun k x v W hx ho hW => by
    obtain ⟨A2, c2, rfl, hr⟩ := Rws.of_own ho rfl
    have hmem := List.mem_of_getElem? hx
    have hb := (sE_sh (hv x hmem) (hs x hmem)).2
    have hll : (foldL (l.take k)).length ≤ 10000 := Nat.le_trans (foldL_len _) (by simp; omega)
    refine (refPut_any A2 _ c2 _ x.s x.a x.b x.c W hr hll (by omega) (bd8_mem (foldL_asc _) (fun q => foldL_c q) (bd8_cnt (fun y hy => hs y (List.mem_of_mem_take hy)) (fun y hy => hv y (List.mem_of_mem_take hy)) (by simp; omega)))).mono ?_
    rintro e w' ⟨hb', v, rfl, ho'⟩
    refine ⟨hb', v, rfl, ?_⟩
    rw [foldL_step hx]
    exact own_base ho' hW
  clear h hs hv
  go_enter Try.func19, Try.ntmps19
  go_wp2
  go_loopw [4, 5] (fun v i wr => ∃ k : Nat, k ≤ n ∧ i = .int .i64 k ∧ Hid (wr.ownsRow w.heap.size 103 4 v (foldL (l.take k)).length ((foldL (l.take k)).flatMap Q4.cs)) ∧ Hid (Below w.heap.size w wr)) (fun _ i _ => n - (intOf i).toNat)
  case atStart => exact ⟨0, Nat.zero_le _, rfl, Lib.hid (World.ownsRow_nil _ _ _ _), Lib.hid (Below.refl _ _)⟩
  case round =>
    obtain ⟨k, hk, rfl, HO, HB⟩ := hrel
    have ow := HB.out.size
    by_cases hlt : k < n
    · obtain ⟨b, o, ⟨ys, ya, yb, yc⟩, rfl, hbb, hy, c0, c1, c2, c3⟩ := (H.out _ HB.out).q4 hlt
      dsimp only at c0 c1 c2 c3
      have HP := Lib.hid (PT.out k _ _ wr hy HO.out ow)
      have ob : b < wr.heap.size := by omega
      clear hy
      go_wp2_with (go_at_call 60; go_loud (with_reducible refine HP.out.mono ?_; rintro e w5 ⟨hb5, v5, rfl, ho5⟩; have HO5 := Lib.hid ho5; have HB5 : Hid (Below w.heap.size w w5) := Lib.hid (HB.out.trans (hb5.mono ow)); clear ho5 hb5))
      go_roundw
      case rel => exact ⟨k + 1, by omega, by go_num, HO5, HB5⟩
      case measure => simp [intOf]; omega
    · obtain rfl : k = n := by omega
      have hkl : l.take k = l := List.take_of_length_le (by omega)
      rw [hkl] at HO
      obtain ⟨A2, c2, rfl, hr⟩ := Rws.of_own HO.out rfl
      have hll : (foldL l).length ≤ 10000 := Nat.le_trans (foldL_len _) (by omega)
      have ST := Lib.hid (settled_any A2 _ c2 (foldL l) wr hr hll)
      clear hr
      go_wp2_with (go_at_call 61; go_loud (with_reducible refine ST.out.mono ?_; rintro e w5 ⟨hb5, v5, rfl, ho5⟩; have HO5 := Lib.hid (own_base ho5 ow); have HB5 : Hid (Below w.heap.size w w5) := Lib.hid (HB.out.trans (hb5.mono ow)); clear ho5 hb5))
      go_ret2
      exact ⟨HB5.out, v5, rfl, HO5.out⟩

end Go.Proofs.Ytmcefodfppdajaa
