/- Chapter 9, walks: Platforms of the reference. -/
import Derived.Test.YtgjjjnofdjhikaaPlatT9
import Derived.Test.YtgjjjnofdjhikaaRecSpec9
import Derived.Test.YtgjjjnofdjhikaaLineG
import Derived.Sort.Walk0
namespace Go.Proofs.Ytgjjjnofdjhikaa
open Go.RowKit Go.WideShapes Go.Deep Go.Sort

section
variable {w : World} {base : Nat} {W H : List Tx} {vw : Value} {ops : Array Oper} {rest : List Oper} {o : Oper} {a : Act} {Q : Exit → Act → World → Prop}
/-- A row of texts, behind a row of the call's own. -/
theorem app_txs (h : w.ownsRow base 9 1 vw W.length (Ss W)) (hgd : o.guard = none) (s x : Operand) (ho : o.op = .call { callee := .builtin .append, args := #[s, x], argTypes := #[28, 28] })
    (hs : a.eval s = vw) {A : Option Addr} {n c B : Nat} (hx : a.eval x = .slice A n c) (hr : Rws tx 1 w B A n c H) (hn : W.length + n ≤ 100000) (hbase : base ≤ w.heap.size)
    (hK : ∀ v' w', w'.ownsRow base 9 1 v' (W ++ H).length (Ss (W ++ H)) → w.grownBy w' vw.ownBlock → wpList Try.prog ops Q rest (a.put o.dst v') w') : wpList Try.prog ops Q (o :: rest) a w := by
  obtain ⟨i0, z, hi0, hz0, hzs, hz1, hz2⟩ := info_cells info_str
  have hl := hr.len
  have hap : Ss (W ++ H) = Ss W ++ H.flatMap tx := by rw [tx_flat]; simp [Ss]
  cases A with
  | none =>
    obtain ⟨rfl, rfl⟩ := hr.nil rfl
    have hl : H = [] := List.eq_nil_of_length_eq_zero hl
    subst hl
    exact wpList_append_own_none hgd s x _ ho base 9 i0 1 Try.underlying28 hi0 vw W.length _ hs h hx (hK vw w (by simpa using h) (World.grownBy.refl _ _))
  | some ad =>
    exact wpList_append_own_at w hgd s x _ ho base 9 i0 z 1 16 Try.underlying28 hi0 hz0 hz1 hz2 hzs (by omega) vw W.length (Ss W) hs h ad n c (H.flatMap tx) hx (by rw [flat_length tx_wide H, hl]) hr.news (ones_of (fun x u hu => by simp [tx] at hu; subst hu; rfl) H) (by unfold maxLen; omega) (by omega) hbase fun v' w' h1 h2 _ _ => hK v' w' (by rw [hap, List.length_append, hl]; exact h1) h2
end
theorem Rws.tail {α : Type} {f : α → List Value} {size : Nat} {w : World} {B n c J g o : Nat} {l : List α} (h : Rws f size w B (some ⟨g, o, none⟩) n c l) (hf : ∀ x, (f x).length = size) (hJ : J ≤ n) : Rws f size w B (some ⟨g, o + J * size, none⟩) (n - J) (c - J) (l.drop J) := by
  have hl := h.len
  have hcap := h.cap
  have hmax := h.max
  refine ⟨⟨by rw [flat_length hf, List.length_drop, hl], by omega, by omega, fun hn => ?_⟩, by rw [List.length_drop, hl], fun e => by cases e⟩
  obtain ⟨b', o', e, hb, hc⟩ := h.sl.cells (by omega)
  simp at e
  obtain ⟨rfl, rfl⟩ := e
  refine ⟨g, o + J * size, rfl, hb, fun k u hu => ?_⟩
  have h1 : l.flatMap f = (l.take J).flatMap f ++ (l.drop J).flatMap f := by rw [← List.flatMap_append, List.take_append_drop]
  have h2 : ((l.take J).flatMap f).length = J * size := by rw [flat_length hf, List.length_take, hl, Nat.min_eq_left hJ]
  have := hc (J * size + k) u (by rw [h1, List.getElem?_append_right (by omega), h2, Nat.add_sub_cancel_left]; exact hu)
  rwa [← Nat.add_assoc] at this
theorem Rws.none_of {α : Type} {f : α → List Value} {size : Nat} {w : World} {B c g o : Nat} {l : List α} (hl : l = []) (hc : c ≤ 9223372036854775807) : Rws f size w B (some ⟨g, o, none⟩) 0 c l := by
  subst hl
  exact ⟨⟨by simp, Nat.zero_le _, hc, fun h => absurd h (Nat.lt_irrefl _)⟩, rfl, fun e => by cases e⟩
theorem less_tx {x : Tx} {xb p : ByteArray} {u : Bool} (h : (⟨x.toArray⟩ : ByteArray) = xb) (hu : Op.bytesLess xb.toList p.toList = u) : decide (x < p.data.toList) = u := by
  rw [← hu, ← h, tx_list, ba_list, bytesLess_eq]
theorem plc_stop {p y : Tx} {W : List Tx} {j : Nat} (hy : W[j]? = some y) (h : plc p W = j + plc p (W.drop j)) (hl : decide (y < p) = false) : plc p W = j := by
  rw [h, drop_step hy, plc, if_neg (by simpa using hl)]
  rfl
theorem plc_next {p y : Tx} {W : List Tx} {j : Nat} (hy : W[j]? = some y) (h : plc p W = j + plc p (W.drop j)) (hl : decide (y < p) = true) : plc p W = j + 1 + plc p (W.drop (j + 1)) := by
  rw [h, drop_step hy, plc, if_pos (by simpa using hl)]
  omega
theorem plc_end {p : Tx} {W : List Tx} {j : Nat} (hj : W.length ≤ j) (h : plc p W = j + plc p (W.drop j)) : plc p W = j := by
  rw [h, List.drop_eq_nil_of_le hj]
  rfl
theorem own_base {w : World} {base base' e size n : Nat} {v : Value} {xs : List Value} (h : w.ownsRow base e size v n xs) (hb : base' ≤ base) : w.ownsRow base' e size v n xs := by
  refine ⟨h.1, ?_⟩
  rcases h.2 with h | ⟨g, cap, cur, rfl, hbg, rest⟩
  · exact .inl h
  · exact .inr ⟨g, cap, cur, rfl, by omega, rest⟩
set_option maxRecDepth 100000 in
set_option maxHeartbeats 4000000 in
theorem refPlatforms_any (A : Option Addr) (n c : Nat) (l : List Ev) (w : World) (h : Rws Ev.cs 6 w w.heap.size A n c l) (hn : n ≤ 1000) :
    Calls Try.prog 17 #[.slice A n c] w fun e w' => Below w.heap.size w w' ∧ ∃ v, e = .returned v ∧ w'.ownsRow w.heap.size 9 1 v (platsR l).length (Ss (platsR l)) := by
  have hcap := h.cap
  have hmax := h.max
  have HLEN := Lib.hid h.len
  have H : Hid (∀ w', Below w.heap.size w w' → Rws Ev.cs 6 w' w.heap.size A n c l) := fun w' hb => h.below hb (Nat.le_refl _) (Nat.le_refl _)
  clear h
  go_enter Try.func17, Try.ntmps17
  go_wp2
  go_loopw [3, 4, 5] (fun vo i _ wr => ∃ (k : Nat) (W : List Tx), k ≤ n ∧ i = .int .i64 k ∧ Hid (platsR (l.take k) = W) ∧ wr.ownsRow w.heap.size 9 1 vo W.length (Ss W) ∧ Below w.heap.size w wr) (fun _ i _ _ => n - (intOf i).toNat)
  case atStart => exact ⟨0, [], Nat.zero_le _, rfl, Lib.hid rfl, World.ownsRow_nil _ _ _ _, (by repeat (first | with_reducible exact Below.refl _ _ | with_reducible assumption | with_reducible refine Below.drew ?_ | with_reducible refine Below.drewN ?_ _ | with_reducible refine Below.alloc2 ?_ _ | with_reducible refine Below.alloc ?_ (by first | omega | (simp <;> omega)) _ | with_reducible refine Below.setCell ?_ (by first | omega | (simp <;> omega)) _ | with_reducible refine Below.step2 (by with_reducible assumption) ?_ | with_reducible refine Below.step (by with_reducible assumption) ?_ (by first | omega | (simp <;> omega))))⟩
  case round =>
    obtain ⟨k, W, hk, rfl, HV, ho, hb⟩ := hrel
    have HB := Lib.hid hb
    have HO := Lib.hid ho
    have ow := hb.size
    have HWL : Hid (W.length ≤ 1000) := Lib.hid (by rw [← HV.out]; have := platsR_len l k; omega)
    by_cases hlt : k < n
    · obtain ⟨b, o, ⟨xd, xk, xp, xn, xs, xg⟩, rfl, hbb, hx, c0, c1, c2, c3, c4, c5⟩ := (H.out _ hb).ev hlt
      dsimp only at c0 c1 c2 c3 c4 c5
      have hst := platsR_step hx
      rw [HV.out] at hst
      have HS := Lib.hid hst
      obtain ⟨A0, ca, rfl, hr⟩ := tx_own ho rfl
      have HR := Lib.hid hr
      have hcap0 := hr.cap
      have hmax0 := hr.max
      have z1 : (0 : Int) ≤ (k : Int) := by omega
      have z2 : (k : Int) < (n : Int) := by omega
      have ob : b < wr.heap.size := by omega
      obtain ⟨m, hm⟩ : ∃ m, decide (xp.data.toList ∈ W) = m := ⟨_, rfl⟩
      have HT : Hid (∀ W', Below wr.heap.size wr W' → Calls Try.prog 23 #[.slice A0 W.length ca, .string xp] W' fun e w' => W' = w' ∧ e = .returned (.bool m)) := Lib.hid fun W' hW => by
        have := hasText_any A0 W.length ca _ W xp W' (hr.below hW (Nat.le_refl _) hW.size)
        rwa [hm] at this
      have hpe : xp.data.toList = [] ↔ xp.toList = [] := by rw [ba_list]
      clear hx hb ho hst hr
      by_cases hv : xp.toList = []
      rotate_left
      · have hne : ¬ xp.data.toList = [] := fun q => hv (hpe.1 q)
        have hv2 : xp.toList.isEmpty = false := by simpa using hv
        cases m
        · have hmm : ¬ xp.data.toList ∈ W := by simpa using hm
          have HI : Hid (stepR W xp.data.toList = insP W xp.data.toList) := Lib.hid (by unfold stepR; rw [if_neg (by rintro (q | q); exact hne q; exact hmm q)])
          clear hpe hne hmm hm hv
          go_wp2_with (go_at_call 23; with_reducible refine (HT.out _ (by exact (by repeat (first | with_reducible exact Below.refl _ _ | with_reducible assumption | with_reducible refine Below.drew ?_ | with_reducible refine Below.drewN ?_ _ | with_reducible refine Below.alloc2 ?_ _ | with_reducible refine Below.alloc ?_ (by first | omega | (simp <;> omega)) _ | with_reducible refine Below.setCell ?_ (by first | omega | (simp <;> omega)) _ | with_reducible refine Below.step2 (by with_reducible assumption) ?_ | with_reducible refine Below.step (by with_reducible assumption) ?_ (by first | omega | (simp <;> omega)))))).mono ?_; rintro e w' ⟨rfl, rfl⟩)
          obtain ⟨wq, rfl⟩ : ∃ x, x = wr := ⟨_, rfl⟩
          go_loopw [5] (fun i wi => ∃ j : Nat, j ≤ W.length ∧ i = .int .i64 j ∧ Hid (plc xp.data.toList W = j + plc xp.data.toList (W.drop j)) ∧ ∃ q, wi = wq.drewN q) (fun i _ => W.length - (intOf i).toNat)
          case atStart => exact ⟨0, Nat.zero_le _, rfl, Lib.hid (by simp), 0, rfl⟩
          case round =>
            obtain ⟨j, hj, rfl, HP, q0, rfl⟩ := hrel
            by_cases hjl : j < W.length
            · obtain ⟨b2, o2, y, rfl, ob2, hy, d0⟩ := HR.out.tx hjl
              obtain ⟨yb, hyb⟩ : ∃ y' : ByteArray, (⟨y.toArray⟩ : ByteArray) = y' := ⟨_, rfl⟩
              rw [hyb] at d0
              obtain ⟨u, hu⟩ : ∃ u, Op.bytesLess yb.toList xp.toList = u := ⟨_, rfl⟩
              have hless := less_tx hyb hu
              have y1 : (0 : Int) ≤ (j : Int) := by omega
              have y2 : (j : Int) < (W.length : Int) := by omega
              cases u
              · have HE := Lib.hid (plc_stop hy HP.out hless)
                clear hy hyb hless
                go_wp2
                go_quiet (fail)
                go_wp2
                have y5 : (j : Int) ≤ (ca : Int) := by omega
                have y6 : ¬ ca < j := by omega
                have y7 : (j : Int) ≤ (W.length : Int) := by omega
                have y8 : ¬ W.length < j := by omega
                have y9 : ¬ ca = j := by omega
                have RH : Hid (∀ W', Below wq.heap.size wq W' → Rws tx 1 W' W'.heap.size (some ⟨b2, o2, none⟩) j ca (W.take j)) := Lib.hid fun W' hW => (HR.out.take tx_wide hj).below hW (Nat.le_refl _) hW.size
                have RT : Hid (∀ W', Below wq.heap.size wq W' → Rws tx 1 W' W'.heap.size (some ⟨b2, o2 + j, none⟩) (W.length - j) (ca - j) (W.drop j)) := Lib.hid fun W' hW => by
                  have := (HR.out.tail tx_wide hj).below hW (Nat.le_refl _) hW.size
                  rwa [Nat.mul_one] at this
                (
                                have hwl := HWL.out
                                obtain ⟨w0, hw0⟩ : ∃ x, x = ((wq.drewN q0).drewN nq).drew := ⟨_, rfl⟩
                                have HB0 : Hid (Below wq.heap.size wq w0) := Lib.hid (by rw [hw0]; exact (by repeat (first | with_reducible exact Below.refl _ _ | with_reducible assumption | with_reducible refine Below.drew ?_ | with_reducible refine Below.drewN ?_ _ | with_reducible refine Below.alloc2 ?_ _ | with_reducible refine Below.alloc ?_ (by first | omega | (simp <;> omega)) _ | with_reducible refine Below.setCell ?_ (by first | omega | (simp <;> omega)) _ | with_reducible refine Below.step2 (by with_reducible assumption) ?_ | with_reducible refine Below.step (by with_reducible assumption) ?_ (by first | omega | (simp <;> omega)))))
                                have hs1 : w0.cell? ⟨b, o + k * 6 + 2, none⟩ = some (.string xp) := by rw [hw0]; exact c2
                                refine region_goes (n := 17) (fun w' => w'.cell? ⟨b, o + k * 6 + 2, none⟩ = some (.string xp)) [] (by kernel_rfl) rfl ?_
                                rw [← hw0]
                                clear hw0
                                refine goes_takeE (i := 1) (E := []) (v := .slice (some ⟨b2, o2, none⟩) W.length ca) rfl (by kernel_rfl) rfl (fun _ _ _ h => h) (by intro w' hw'; go_simp) hs1 ?_
                                refine goes_takeE (i := 2) (E := []) (v := .int .i64 (j : Int)) rfl (by kernel_rfl) rfl (fun _ _ _ h => h) (by intro w' hw'; go_simp) hs1 ?_
                                refine goes_takeE (i := 3) (E := []) (v := .slice (some ⟨b2, o2, none⟩) j ca) rfl (by kernel_rfl) rfl (fun _ _ _ h => h) (by intro w' hw'; go_simp) hs1 ?_
                                refine goes_takeE (i := 5) (E := []) (v := .slice (some ⟨b, o, none⟩) n c) rfl (by kernel_rfl) rfl (fun _ _ _ h => h) (by intro w' hw'; go_simp) hs1 ?_
                                refine goes_takeE (i := 6) (E := []) (v := .int .i64 (k : Int)) rfl (by kernel_rfl) rfl (fun _ _ _ h => h) (by intro w' hw'; go_simp) hs1 ?_
                                refine goes_takeE (i := 7) (E := []) (v := .pointer (some ⟨b, o + k * 6, none⟩)) rfl (by kernel_rfl) rfl (fun _ _ _ h => h) (by intro w' hw'; go_simp) hs1 ?_
                                refine goes_takeE (i := 8) (E := []) (v := .pointer (some ⟨b, o + k * 6 + 2, none⟩)) rfl (by kernel_rfl) rfl (fun _ _ _ h => h) (by intro w' hw'; go_simp) hs1 ?_
                                refine goes_takeE (i := 9) (E := []) (v := .string xp) rfl (by kernel_rfl) rfl (fun _ _ _ h => h) (by intro w' hw'; go_simp) hs1 ?_
                                refine goes_takeE (i := 12) (E := []) (v := .slice (some ⟨b2, o2, none⟩) W.length ca) rfl (by kernel_rfl) rfl (fun _ _ _ h => h) (by intro w' hw'; go_simp) hs1 ?_
                                refine goes_takeE (i := 13) (E := []) (v := .int .i64 (j : Int)) rfl (by kernel_rfl) rfl (fun _ _ _ h => h) (by intro w' hw'; go_simp) hs1 ?_
                                refine goes_takeE (i := 14) (E := []) (v := .slice (some ⟨b2, o2 + j, none⟩) (W.length - j) (ca - j)) rfl (by kernel_rfl) rfl (fun _ _ _ h => h) (by intro w' hw'; go_simp) hs1 ?_
                                clear hs1
                                refine goes_two (i := 0) (j := 10) rfl rfl (by kernel_rfl) ?_ ?_
                                · go_wp2
                                  obtain ⟨w1, hnew⟩ : ∃ x, x = w0.alloc (.cells #[] 9) := ⟨_, rfl⟩
                                  rw [← hnew]
                                  have HRw1 : Hid (w1.ownsRow wq.heap.size 9 1 (.slice (some ⟨w0.heap.size, 0, none⟩) 0 0) 0 []) := Lib.hid (by rw [hnew]; exact World.ownsRow_made _ #[] 0 HB0.out.size (by unfold maxLen; omega) rfl)
                                  have HMw1 : Hid (Below w0.heap.size w0 w1) := Lib.hid (by rw [hnew]; exact (Below.refl _ _).alloc (Nat.le_refl _) _)
                                  have HBw1 : Hid (Below wq.heap.size wq w1) := Lib.hid (Below.step2 HMw1.out HB0.out)
                                  have HLw1 : Hid (w0.heap.size < w1.heap.size) := Lib.hid (by rw [hnew]; simp)
                                  have hs1 : w1.cell? ⟨b, o + k * 6 + 2, none⟩ = some (.string xp) := (World.cell?_of_block (a := ⟨b, o + k * 6 + 2, none⟩) (HBw1.out.block b ob)).trans c2
                                  clear hnew
                                  refine behind_ok ⟨hs1, ?_⟩
                                  clear hs1
                                  refine goes_two (i := 4) (j := 10) rfl rfl (by kernel_rfl) ?_ ?_
                                  · refine app_txs (W := []) (base := wq.heap.size) (vw := .slice (some ⟨w0.heap.size, 0, none⟩) 0 0) HRw1.out rfl _ _ rfl rfl rfl (RH.out _ HBw1.out) (by simp; omega) HBw1.out.size ?_
                                    intro v1 w2 ho1 hg1
                                    have HVw2 : Hid (w2.ownsRow wq.heap.size 9 1 v1 (W.take j).length (Ss (W.take j))) := Lib.hid (by simpa using ho1)
                                    have HGw2 := Lib.hid hg1
                                    have HBw2 : Hid (Below wq.heap.size wq w2) := Lib.hid (Below.grown_ HBw1.out hg1 HBw1.out.size (fun q hq => (HRw1.out.lt q hq).1))
                                    have hs1 : w2.cell? ⟨b, o + k * 6 + 2, none⟩ = some (.string xp) := (World.cell?_of_block (a := ⟨b, o + k * 6 + 2, none⟩) (HBw2.out.block b ob)).trans c2
                                    clear ho1 hg1
                                    go_wp2
                                    refine behind_ok ⟨hs1, ?_⟩
                                    clear hs1
                                    refine goes_call (i := 10) rfl (by kernel_rfl) ?_
                                    go_wp2
                                    obtain ⟨w3, hnew⟩ : ∃ x, x = w2.alloc (.cells #[.string xp] 9) := ⟨_, rfl⟩
                                    rw [← hnew]
                                    have HPw3 : Hid (Bk w3 w2.heap.size 9 #[.string xp]) := Lib.hid (by rw [hnew]; exact Bk.at_ rfl)
                                    have HNw3 : Hid (Below w2.heap.size w2 w3) := Lib.hid (by rw [hnew]; exact (Below.refl _ _).alloc (Nat.le_refl _) _)
                                    have HBw3 : Hid (Below wq.heap.size wq w3) := Lib.hid (Below.step2 HNw3.out HBw2.out)
                                    have hs1 : w3.cell? ⟨b, o + k * 6 + 2, none⟩ = some (.string xp) := (World.cell?_of_block (a := ⟨b, o + k * 6 + 2, none⟩) (HBw3.out.block b ob)).trans c2
                                    clear hnew
                                    have F1 := Lib.hid (own_step HVw2.out HNw3.out)
                                    refine behind_ok ⟨hs1, ?_⟩
                                    clear hs1
                                    refine goes_call (i := 11) rfl (by kernel_rfl) ?_
                                    refine app_s (W := W.take j) (base := wq.heap.size) (vw := v1) F1.out rfl _ _ rfl rfl xp.data.toList w2.heap.size rfl HPw3.out (by rw [List.length_take]; omega) HBw3.out.size ?_
                                    intro v5 w5 ho5 hg5
                                    have HV5 := Lib.hid ho5
                                    have HB5 : Hid (Below wq.heap.size wq w5) := Lib.hid (Below.grown_ HBw3.out hg5 HBw3.out.size (fun q hq => (F1.out.lt q hq).1))
                                    have hs1 : w5.cell? ⟨b, o + k * 6 + 2, none⟩ = some (.string xp) := (World.cell?_of_block (a := ⟨b, o + k * 6 + 2, none⟩) (HB5.out.block b ob)).trans c2
                                    clear ho5 hg5
                                    go_wp2
                                    refine behind_ok ⟨hs1, ?_⟩
                                    clear hs1
                                    refine goes_call (i := 15) rfl (by kernel_rfl) ?_
                                    refine app_txs (W := W.take j ++ [xp.data.toList]) (base := wq.heap.size) (vw := v5) HV5.out rfl _ _ rfl rfl rfl (RT.out _ HB5.out) (by rw [List.length_append, List.length_take, List.length_singleton]; omega) HB5.out.size ?_
                                    intro v6 w6 ho6 hg6
                                    have HV6 := Lib.hid ho6
                                    have HB6 : Hid (Below wq.heap.size wq w6) := Lib.hid (Below.grown_ HB5.out hg6 HB5.out.size (fun q hq => (HV5.out.lt q hq).1))
                                    have hs1 : w6.cell? ⟨b, o + k * 6 + 2, none⟩ = some (.string xp) := (World.cell?_of_block (a := ⟨b, o + k * 6 + 2, none⟩) (HB6.out.block b ob)).trans c2
                                    clear ho6 hg6
                                    go_wp2
                                    refine behind_ok ⟨hs1, ?_⟩
                                    clear hs1
                                    refine goes_call (i := 16) rfl (by kernel_rfl) ?_
                                    go_wp2
                                    have hs1 : w6.cell? ⟨b, o + k * 6 + 2, none⟩ = some (.string xp) := (World.cell?_of_block (a := ⟨b, o + k * 6 + 2, none⟩) (HB6.out.block b ob)).trans c2
                                    refine behind_ok ⟨hs1, ?_⟩
                                    refine goes_done (by kernel_rfl) ?_
                                    go_wp2
                                    have hfin : W.take j ++ [xp.data.toList] ++ W.drop j = insP W xp.data.toList := by unfold insP; rw [HE.out, List.append_assoc]; rfl
                                    have hbw := Below.step2 HB6.out HB.out
                                    refine ⟨⟨k + 1, insP W xp.data.toList, by omega, by go_num, Lib.hid (HS.out.trans HI.out), ?_, hbw⟩, by simp [intOf]; omega⟩
                                    have := own_base HV6.out HB.out.size
                                    rwa [hfin] at this
                                  · go_wp2
                                    obtain ⟨w2, hnew⟩ : ∃ x, x = w1.alloc (.cells #[.string xp] 9) := ⟨_, rfl⟩
                                    rw [← hnew]
                                    have HPw2 : Hid (Bk w2 w1.heap.size 9 #[.string xp]) := Lib.hid (by rw [hnew]; exact Bk.at_ rfl)
                                    have HNw2 : Hid (Below w1.heap.size w1 w2) := Lib.hid (by rw [hnew]; exact (Below.refl _ _).alloc (Nat.le_refl _) _)
                                    have HBw2 : Hid (Below wq.heap.size wq w2) := Lib.hid (Below.step2 HNw2.out HBw1.out)
                                    have hs1 : w2.cell? ⟨b, o + k * 6 + 2, none⟩ = some (.string xp) := (World.cell?_of_block (a := ⟨b, o + k * 6 + 2, none⟩) (HBw2.out.block b ob)).trans c2
                                    clear hnew
                                    have HRw2 := Lib.hid (own_step HRw1.out HNw2.out)
                                    refine behind_ok ⟨hs1, ?_⟩
                                    clear hs1
                                    refine goes_call (i := 4) rfl (by kernel_rfl) ?_
                                    refine app_txs (W := []) (base := wq.heap.size) (vw := .slice (some ⟨w0.heap.size, 0, none⟩) 0 0) HRw2.out rfl _ _ rfl rfl rfl (RH.out _ HBw2.out) (by simp; omega) HBw2.out.size ?_
                                    intro v1 w3 ho1 hg1
                                    have HVw3 : Hid (w3.ownsRow wq.heap.size 9 1 v1 (W.take j).length (Ss (W.take j))) := Lib.hid (by simpa using ho1)
                                    have HGw3 := Lib.hid hg1
                                    have HBw3 : Hid (Below wq.heap.size wq w3) := Lib.hid (Below.grown_ HBw2.out hg1 HBw2.out.size (fun q hq => (HRw2.out.lt q hq).1))
                                    have hs1 : w3.cell? ⟨b, o + k * 6 + 2, none⟩ = some (.string xp) := (World.cell?_of_block (a := ⟨b, o + k * 6 + 2, none⟩) (HBw3.out.block b ob)).trans c2
                                    clear ho1 hg1
                                    go_wp2
                                    have HPw3 : Hid (Bk w3 w1.heap.size 9 #[.string xp]) := Lib.hid ((HGw3.out.block _ HPw2.out.lt (by simp [Value.ownBlock]; have := HLw1.out; omega)).trans HPw2.out)
                                    have F1 := HVw3
                                    refine behind_ok ⟨hs1, ?_⟩
                                    clear hs1
                                    refine goes_call (i := 11) rfl (by kernel_rfl) ?_
                                    refine app_s (W := W.take j) (base := wq.heap.size) (vw := v1) F1.out rfl _ _ rfl rfl xp.data.toList w1.heap.size rfl HPw3.out (by rw [List.length_take]; omega) HBw3.out.size ?_
                                    intro v5 w5 ho5 hg5
                                    have HV5 := Lib.hid ho5
                                    have HB5 : Hid (Below wq.heap.size wq w5) := Lib.hid (Below.grown_ HBw3.out hg5 HBw3.out.size (fun q hq => (F1.out.lt q hq).1))
                                    have hs1 : w5.cell? ⟨b, o + k * 6 + 2, none⟩ = some (.string xp) := (World.cell?_of_block (a := ⟨b, o + k * 6 + 2, none⟩) (HB5.out.block b ob)).trans c2
                                    clear ho5 hg5
                                    go_wp2
                                    refine behind_ok ⟨hs1, ?_⟩
                                    clear hs1
                                    refine goes_call (i := 15) rfl (by kernel_rfl) ?_
                                    refine app_txs (W := W.take j ++ [xp.data.toList]) (base := wq.heap.size) (vw := v5) HV5.out rfl _ _ rfl rfl rfl (RT.out _ HB5.out) (by rw [List.length_append, List.length_take, List.length_singleton]; omega) HB5.out.size ?_
                                    intro v6 w6 ho6 hg6
                                    have HV6 := Lib.hid ho6
                                    have HB6 : Hid (Below wq.heap.size wq w6) := Lib.hid (Below.grown_ HB5.out hg6 HB5.out.size (fun q hq => (HV5.out.lt q hq).1))
                                    have hs1 : w6.cell? ⟨b, o + k * 6 + 2, none⟩ = some (.string xp) := (World.cell?_of_block (a := ⟨b, o + k * 6 + 2, none⟩) (HB6.out.block b ob)).trans c2
                                    clear ho6 hg6
                                    go_wp2
                                    refine behind_ok ⟨hs1, ?_⟩
                                    clear hs1
                                    refine goes_call (i := 16) rfl (by kernel_rfl) ?_
                                    go_wp2
                                    have hs1 : w6.cell? ⟨b, o + k * 6 + 2, none⟩ = some (.string xp) := (World.cell?_of_block (a := ⟨b, o + k * 6 + 2, none⟩) (HB6.out.block b ob)).trans c2
                                    refine behind_ok ⟨hs1, ?_⟩
                                    refine goes_done (by kernel_rfl) ?_
                                    go_wp2
                                    have hfin : W.take j ++ [xp.data.toList] ++ W.drop j = insP W xp.data.toList := by unfold insP; rw [HE.out, List.append_assoc]; rfl
                                    have hbw := Below.step2 HB6.out HB.out
                                    refine ⟨⟨k + 1, insP W xp.data.toList, by omega, by go_num, Lib.hid (HS.out.trans HI.out), ?_, hbw⟩, by simp [intOf]; omega⟩
                                    have := own_base HV6.out HB.out.size
                                    rwa [hfin] at this
                                · go_wp2
                                  obtain ⟨w1, hnew⟩ : ∃ x, x = w0.alloc (.cells #[.string xp] 9) := ⟨_, rfl⟩
                                  rw [← hnew]
                                  have HPw1 : Hid (Bk w1 w0.heap.size 9 #[.string xp]) := Lib.hid (by rw [hnew]; exact Bk.at_ rfl)
                                  have HNw1 : Hid (Below w0.heap.size w0 w1) := Lib.hid (by rw [hnew]; exact (Below.refl _ _).alloc (Nat.le_refl _) _)
                                  have HBw1 : Hid (Below wq.heap.size wq w1) := Lib.hid (Below.step2 HNw1.out HB0.out)
                                  have hs1 : w1.cell? ⟨b, o + k * 6 + 2, none⟩ = some (.string xp) := (World.cell?_of_block (a := ⟨b, o + k * 6 + 2, none⟩) (HBw1.out.block b ob)).trans c2
                                  clear hnew
                                  refine behind_ok ⟨hs1, ?_⟩
                                  clear hs1
                                  refine goes_call (i := 0) rfl (by kernel_rfl) ?_
                                  go_wp2
                                  obtain ⟨w2, hnew⟩ : ∃ x, x = w1.alloc (.cells #[] 9) := ⟨_, rfl⟩
                                  rw [← hnew]
                                  have HRw2 : Hid (w2.ownsRow wq.heap.size 9 1 (.slice (some ⟨w1.heap.size, 0, none⟩) 0 0) 0 []) := Lib.hid (by rw [hnew]; exact World.ownsRow_made _ #[] 0 HBw1.out.size (by unfold maxLen; omega) rfl)
                                  have HMw2 : Hid (Below w1.heap.size w1 w2) := Lib.hid (by rw [hnew]; exact (Below.refl _ _).alloc (Nat.le_refl _) _)
                                  have HBw2 : Hid (Below wq.heap.size wq w2) := Lib.hid (Below.step2 HMw2.out HBw1.out)
                                  have HLw2 : Hid (w1.heap.size < w2.heap.size) := Lib.hid (by rw [hnew]; simp)
                                  have hs1 : w2.cell? ⟨b, o + k * 6 + 2, none⟩ = some (.string xp) := (World.cell?_of_block (a := ⟨b, o + k * 6 + 2, none⟩) (HBw2.out.block b ob)).trans c2
                                  clear hnew
                                  have HPw2 := Lib.hid (HPw1.out.below (show Below w1.heap.size w1 w2 from HMw2.out) HPw1.out.lt)
                                  refine behind_ok ⟨hs1, ?_⟩
                                  clear hs1
                                  refine goes_call (i := 4) rfl (by kernel_rfl) ?_
                                  refine app_txs (W := []) (base := wq.heap.size) (vw := .slice (some ⟨w1.heap.size, 0, none⟩) 0 0) HRw2.out rfl _ _ rfl rfl rfl (RH.out _ HBw2.out) (by simp; omega) HBw2.out.size ?_
                                  intro v1 w3 ho1 hg1
                                  have HVw3 : Hid (w3.ownsRow wq.heap.size 9 1 v1 (W.take j).length (Ss (W.take j))) := Lib.hid (by simpa using ho1)
                                  have HGw3 := Lib.hid hg1
                                  have HBw3 : Hid (Below wq.heap.size wq w3) := Lib.hid (Below.grown_ HBw2.out hg1 HBw2.out.size (fun q hq => (HRw2.out.lt q hq).1))
                                  have hs1 : w3.cell? ⟨b, o + k * 6 + 2, none⟩ = some (.string xp) := (World.cell?_of_block (a := ⟨b, o + k * 6 + 2, none⟩) (HBw3.out.block b ob)).trans c2
                                  clear ho1 hg1
                                  go_wp2
                                  have HPw3 : Hid (Bk w3 w0.heap.size 9 #[.string xp]) := Lib.hid ((HGw3.out.block _ HPw2.out.lt (by simp [Value.ownBlock]; have := HPw1.out.lt; omega)).trans HPw2.out)
                                  have F1 := HVw3
                                  refine behind_ok ⟨hs1, ?_⟩
                                  clear hs1
                                  refine goes_call (i := 11) rfl (by kernel_rfl) ?_
                                  refine app_s (W := W.take j) (base := wq.heap.size) (vw := v1) F1.out rfl _ _ rfl rfl xp.data.toList w0.heap.size rfl HPw3.out (by rw [List.length_take]; omega) HBw3.out.size ?_
                                  intro v5 w5 ho5 hg5
                                  have HV5 := Lib.hid ho5
                                  have HB5 : Hid (Below wq.heap.size wq w5) := Lib.hid (Below.grown_ HBw3.out hg5 HBw3.out.size (fun q hq => (F1.out.lt q hq).1))
                                  have hs1 : w5.cell? ⟨b, o + k * 6 + 2, none⟩ = some (.string xp) := (World.cell?_of_block (a := ⟨b, o + k * 6 + 2, none⟩) (HB5.out.block b ob)).trans c2
                                  clear ho5 hg5
                                  go_wp2
                                  refine behind_ok ⟨hs1, ?_⟩
                                  clear hs1
                                  refine goes_call (i := 15) rfl (by kernel_rfl) ?_
                                  refine app_txs (W := W.take j ++ [xp.data.toList]) (base := wq.heap.size) (vw := v5) HV5.out rfl _ _ rfl rfl rfl (RT.out _ HB5.out) (by rw [List.length_append, List.length_take, List.length_singleton]; omega) HB5.out.size ?_
                                  intro v6 w6 ho6 hg6
                                  have HV6 := Lib.hid ho6
                                  have HB6 : Hid (Below wq.heap.size wq w6) := Lib.hid (Below.grown_ HB5.out hg6 HB5.out.size (fun q hq => (HV5.out.lt q hq).1))
                                  have hs1 : w6.cell? ⟨b, o + k * 6 + 2, none⟩ = some (.string xp) := (World.cell?_of_block (a := ⟨b, o + k * 6 + 2, none⟩) (HB6.out.block b ob)).trans c2
                                  clear ho6 hg6
                                  go_wp2
                                  refine behind_ok ⟨hs1, ?_⟩
                                  clear hs1
                                  refine goes_call (i := 16) rfl (by kernel_rfl) ?_
                                  go_wp2
                                  have hs1 : w6.cell? ⟨b, o + k * 6 + 2, none⟩ = some (.string xp) := (World.cell?_of_block (a := ⟨b, o + k * 6 + 2, none⟩) (HB6.out.block b ob)).trans c2
                                  refine behind_ok ⟨hs1, ?_⟩
                                  refine goes_done (by kernel_rfl) ?_
                                  go_wp2
                                  have hfin : W.take j ++ [xp.data.toList] ++ W.drop j = insP W xp.data.toList := by unfold insP; rw [HE.out, List.append_assoc]; rfl
                                  have hbw := Below.step2 HB6.out HB.out
                                  refine ⟨⟨k + 1, insP W xp.data.toList, by omega, by go_num, Lib.hid (HS.out.trans HI.out), ?_, hbw⟩, by simp [intOf]; omega⟩
                                  have := own_base HV6.out HB.out.size
                                  rwa [hfin] at this)
              · have HE := Lib.hid (plc_next hy HP.out hless)
                clear hy hyb hless
                go_wp2
                go_quiet (fail)
                go_wp2
                go_roundw
                case rel => exact ⟨j + 1, by omega, by go_num, HE, _, rfl⟩
                case measure => simp [intOf]; omega
            · have HE := Lib.hid (plc_end (by omega) HP.out)
              have y2 : ¬ (j : Int) < (W.length : Int) := by omega
              have y3 : decide ((j : Int) < (W.length : Int)) = false := decide_eq_false y2
              go_wp2
              go_quiet (fail)
              go_wp2
              have y5 : (j : Int) ≤ (ca : Int) := by omega
              have y6 : ¬ ca < j := by omega
              have y7 : (j : Int) ≤ (W.length : Int) := by omega
              have y8 : ¬ W.length < j := by omega
              have HRc := HR.out
              have hform : A0 = none ∨ ∃ g, A0 = some ⟨g, 0, none⟩ := by
                rcases HO.out.2 with ⟨e, -⟩ | ⟨g, cap, cur, e, -⟩
                · injection e with e1
                  exact .inl e1
                · injection e with e1
                  exact .inr ⟨g, e1⟩
              rcases hform with rfl | ⟨b2, rfl⟩
              · have e0 := HRc.nil rfl
                obtain ⟨e1, e2⟩ := e0
                have e3 : j = 0 := by omega
                have eW : W = [] := List.eq_nil_of_length_eq_zero e1
                have RH : Hid (∀ W', Below wq.heap.size wq W' → Rws tx 1 W' W'.heap.size none j ca (W.take j)) := Lib.hid fun W' _ => by rw [e3, e2]; exact Rws.nil_ _ _
                have RT : Hid (∀ W', Below wq.heap.size wq W' → Rws tx 1 W' W'.heap.size none (W.length - j) (ca - j) (W.drop j)) := Lib.hid fun W' _ => by rw [e3, e2, eW]; exact Rws.nil_ _ _
                clear HRc e1 e2 e3 eW
                (
                                have hwl := HWL.out
                                obtain ⟨w0, hw0⟩ : ∃ x, x = ((wq.drewN q0).drewN nq).drew := ⟨_, rfl⟩
                                have HB0 : Hid (Below wq.heap.size wq w0) := Lib.hid (by rw [hw0]; exact (by repeat (first | with_reducible exact Below.refl _ _ | with_reducible assumption | with_reducible refine Below.drew ?_ | with_reducible refine Below.drewN ?_ _ | with_reducible refine Below.alloc2 ?_ _ | with_reducible refine Below.alloc ?_ (by first | omega | (simp <;> omega)) _ | with_reducible refine Below.setCell ?_ (by first | omega | (simp <;> omega)) _ | with_reducible refine Below.step2 (by with_reducible assumption) ?_ | with_reducible refine Below.step (by with_reducible assumption) ?_ (by first | omega | (simp <;> omega)))))
                                have hs1 : w0.cell? ⟨b, o + k * 6 + 2, none⟩ = some (.string xp) := by rw [hw0]; exact c2
                                refine region_goes (n := 17) (fun w' => w'.cell? ⟨b, o + k * 6 + 2, none⟩ = some (.string xp)) [] (by kernel_rfl) rfl ?_
                                rw [← hw0]
                                clear hw0
                                refine goes_takeE (i := 1) (E := []) (v := .slice none W.length ca) rfl (by kernel_rfl) rfl (fun _ _ _ h => h) (by intro w' hw'; go_simp) hs1 ?_
                                refine goes_takeE (i := 2) (E := []) (v := .int .i64 (j : Int)) rfl (by kernel_rfl) rfl (fun _ _ _ h => h) (by intro w' hw'; go_simp) hs1 ?_
                                refine goes_takeE (i := 3) (E := []) (v := .slice none j ca) rfl (by kernel_rfl) rfl (fun _ _ _ h => h) (by intro w' hw'; go_simp) hs1 ?_
                                refine goes_takeE (i := 5) (E := []) (v := .slice (some ⟨b, o, none⟩) n c) rfl (by kernel_rfl) rfl (fun _ _ _ h => h) (by intro w' hw'; go_simp) hs1 ?_
                                refine goes_takeE (i := 6) (E := []) (v := .int .i64 (k : Int)) rfl (by kernel_rfl) rfl (fun _ _ _ h => h) (by intro w' hw'; go_simp) hs1 ?_
                                refine goes_takeE (i := 7) (E := []) (v := .pointer (some ⟨b, o + k * 6, none⟩)) rfl (by kernel_rfl) rfl (fun _ _ _ h => h) (by intro w' hw'; go_simp) hs1 ?_
                                refine goes_takeE (i := 8) (E := []) (v := .pointer (some ⟨b, o + k * 6 + 2, none⟩)) rfl (by kernel_rfl) rfl (fun _ _ _ h => h) (by intro w' hw'; go_simp) hs1 ?_
                                refine goes_takeE (i := 9) (E := []) (v := .string xp) rfl (by kernel_rfl) rfl (fun _ _ _ h => h) (by intro w' hw'; go_simp) hs1 ?_
                                refine goes_takeE (i := 12) (E := []) (v := .slice none W.length ca) rfl (by kernel_rfl) rfl (fun _ _ _ h => h) (by intro w' hw'; go_simp) hs1 ?_
                                refine goes_takeE (i := 13) (E := []) (v := .int .i64 (j : Int)) rfl (by kernel_rfl) rfl (fun _ _ _ h => h) (by intro w' hw'; go_simp) hs1 ?_
                                refine goes_takeE (i := 14) (E := []) (v := .slice none (W.length - j) (ca - j)) rfl (by kernel_rfl) rfl (fun _ _ _ h => h) (by intro w' hw'; go_simp) hs1 ?_
                                clear hs1
                                refine goes_two (i := 0) (j := 10) rfl rfl (by kernel_rfl) ?_ ?_
                                · go_wp2
                                  obtain ⟨w1, hnew⟩ : ∃ x, x = w0.alloc (.cells #[] 9) := ⟨_, rfl⟩
                                  rw [← hnew]
                                  have HRw1 : Hid (w1.ownsRow wq.heap.size 9 1 (.slice (some ⟨w0.heap.size, 0, none⟩) 0 0) 0 []) := Lib.hid (by rw [hnew]; exact World.ownsRow_made _ #[] 0 HB0.out.size (by unfold maxLen; omega) rfl)
                                  have HMw1 : Hid (Below w0.heap.size w0 w1) := Lib.hid (by rw [hnew]; exact (Below.refl _ _).alloc (Nat.le_refl _) _)
                                  have HBw1 : Hid (Below wq.heap.size wq w1) := Lib.hid (Below.step2 HMw1.out HB0.out)
                                  have HLw1 : Hid (w0.heap.size < w1.heap.size) := Lib.hid (by rw [hnew]; simp)
                                  have hs1 : w1.cell? ⟨b, o + k * 6 + 2, none⟩ = some (.string xp) := (World.cell?_of_block (a := ⟨b, o + k * 6 + 2, none⟩) (HBw1.out.block b ob)).trans c2
                                  clear hnew
                                  refine behind_ok ⟨hs1, ?_⟩
                                  clear hs1
                                  refine goes_two (i := 4) (j := 10) rfl rfl (by kernel_rfl) ?_ ?_
                                  · refine app_txs (W := []) (base := wq.heap.size) (vw := .slice (some ⟨w0.heap.size, 0, none⟩) 0 0) HRw1.out rfl _ _ rfl rfl rfl (RH.out _ HBw1.out) (by simp; omega) HBw1.out.size ?_
                                    intro v1 w2 ho1 hg1
                                    have HVw2 : Hid (w2.ownsRow wq.heap.size 9 1 v1 (W.take j).length (Ss (W.take j))) := Lib.hid (by simpa using ho1)
                                    have HGw2 := Lib.hid hg1
                                    have HBw2 : Hid (Below wq.heap.size wq w2) := Lib.hid (Below.grown_ HBw1.out hg1 HBw1.out.size (fun q hq => (HRw1.out.lt q hq).1))
                                    have hs1 : w2.cell? ⟨b, o + k * 6 + 2, none⟩ = some (.string xp) := (World.cell?_of_block (a := ⟨b, o + k * 6 + 2, none⟩) (HBw2.out.block b ob)).trans c2
                                    clear ho1 hg1
                                    go_wp2
                                    refine behind_ok ⟨hs1, ?_⟩
                                    clear hs1
                                    refine goes_call (i := 10) rfl (by kernel_rfl) ?_
                                    go_wp2
                                    obtain ⟨w3, hnew⟩ : ∃ x, x = w2.alloc (.cells #[.string xp] 9) := ⟨_, rfl⟩
                                    rw [← hnew]
                                    have HPw3 : Hid (Bk w3 w2.heap.size 9 #[.string xp]) := Lib.hid (by rw [hnew]; exact Bk.at_ rfl)
                                    have HNw3 : Hid (Below w2.heap.size w2 w3) := Lib.hid (by rw [hnew]; exact (Below.refl _ _).alloc (Nat.le_refl _) _)
                                    have HBw3 : Hid (Below wq.heap.size wq w3) := Lib.hid (Below.step2 HNw3.out HBw2.out)
                                    have hs1 : w3.cell? ⟨b, o + k * 6 + 2, none⟩ = some (.string xp) := (World.cell?_of_block (a := ⟨b, o + k * 6 + 2, none⟩) (HBw3.out.block b ob)).trans c2
                                    clear hnew
                                    have F1 := Lib.hid (own_step HVw2.out HNw3.out)
                                    refine behind_ok ⟨hs1, ?_⟩
                                    clear hs1
                                    refine goes_call (i := 11) rfl (by kernel_rfl) ?_
                                    refine app_s (W := W.take j) (base := wq.heap.size) (vw := v1) F1.out rfl _ _ rfl rfl xp.data.toList w2.heap.size rfl HPw3.out (by rw [List.length_take]; omega) HBw3.out.size ?_
                                    intro v5 w5 ho5 hg5
                                    have HV5 := Lib.hid ho5
                                    have HB5 : Hid (Below wq.heap.size wq w5) := Lib.hid (Below.grown_ HBw3.out hg5 HBw3.out.size (fun q hq => (F1.out.lt q hq).1))
                                    have hs1 : w5.cell? ⟨b, o + k * 6 + 2, none⟩ = some (.string xp) := (World.cell?_of_block (a := ⟨b, o + k * 6 + 2, none⟩) (HB5.out.block b ob)).trans c2
                                    clear ho5 hg5
                                    go_wp2
                                    refine behind_ok ⟨hs1, ?_⟩
                                    clear hs1
                                    refine goes_call (i := 15) rfl (by kernel_rfl) ?_
                                    refine app_txs (W := W.take j ++ [xp.data.toList]) (base := wq.heap.size) (vw := v5) HV5.out rfl _ _ rfl rfl rfl (RT.out _ HB5.out) (by rw [List.length_append, List.length_take, List.length_singleton]; omega) HB5.out.size ?_
                                    intro v6 w6 ho6 hg6
                                    have HV6 := Lib.hid ho6
                                    have HB6 : Hid (Below wq.heap.size wq w6) := Lib.hid (Below.grown_ HB5.out hg6 HB5.out.size (fun q hq => (HV5.out.lt q hq).1))
                                    have hs1 : w6.cell? ⟨b, o + k * 6 + 2, none⟩ = some (.string xp) := (World.cell?_of_block (a := ⟨b, o + k * 6 + 2, none⟩) (HB6.out.block b ob)).trans c2
                                    clear ho6 hg6
                                    go_wp2
                                    refine behind_ok ⟨hs1, ?_⟩
                                    clear hs1
                                    refine goes_call (i := 16) rfl (by kernel_rfl) ?_
                                    go_wp2
                                    have hs1 : w6.cell? ⟨b, o + k * 6 + 2, none⟩ = some (.string xp) := (World.cell?_of_block (a := ⟨b, o + k * 6 + 2, none⟩) (HB6.out.block b ob)).trans c2
                                    refine behind_ok ⟨hs1, ?_⟩
                                    refine goes_done (by kernel_rfl) ?_
                                    go_wp2
                                    have hfin : W.take j ++ [xp.data.toList] ++ W.drop j = insP W xp.data.toList := by unfold insP; rw [HE.out, List.append_assoc]; rfl
                                    have hbw := Below.step2 HB6.out HB.out
                                    refine ⟨⟨k + 1, insP W xp.data.toList, by omega, by go_num, Lib.hid (HS.out.trans HI.out), ?_, hbw⟩, by simp [intOf]; omega⟩
                                    have := own_base HV6.out HB.out.size
                                    rwa [hfin] at this
                                  · go_wp2
                                    obtain ⟨w2, hnew⟩ : ∃ x, x = w1.alloc (.cells #[.string xp] 9) := ⟨_, rfl⟩
                                    rw [← hnew]
                                    have HPw2 : Hid (Bk w2 w1.heap.size 9 #[.string xp]) := Lib.hid (by rw [hnew]; exact Bk.at_ rfl)
                                    have HNw2 : Hid (Below w1.heap.size w1 w2) := Lib.hid (by rw [hnew]; exact (Below.refl _ _).alloc (Nat.le_refl _) _)
                                    have HBw2 : Hid (Below wq.heap.size wq w2) := Lib.hid (Below.step2 HNw2.out HBw1.out)
                                    have hs1 : w2.cell? ⟨b, o + k * 6 + 2, none⟩ = some (.string xp) := (World.cell?_of_block (a := ⟨b, o + k * 6 + 2, none⟩) (HBw2.out.block b ob)).trans c2
                                    clear hnew
                                    have HRw2 := Lib.hid (own_step HRw1.out HNw2.out)
                                    refine behind_ok ⟨hs1, ?_⟩
                                    clear hs1
                                    refine goes_call (i := 4) rfl (by kernel_rfl) ?_
                                    refine app_txs (W := []) (base := wq.heap.size) (vw := .slice (some ⟨w0.heap.size, 0, none⟩) 0 0) HRw2.out rfl _ _ rfl rfl rfl (RH.out _ HBw2.out) (by simp; omega) HBw2.out.size ?_
                                    intro v1 w3 ho1 hg1
                                    have HVw3 : Hid (w3.ownsRow wq.heap.size 9 1 v1 (W.take j).length (Ss (W.take j))) := Lib.hid (by simpa using ho1)
                                    have HGw3 := Lib.hid hg1
                                    have HBw3 : Hid (Below wq.heap.size wq w3) := Lib.hid (Below.grown_ HBw2.out hg1 HBw2.out.size (fun q hq => (HRw2.out.lt q hq).1))
                                    have hs1 : w3.cell? ⟨b, o + k * 6 + 2, none⟩ = some (.string xp) := (World.cell?_of_block (a := ⟨b, o + k * 6 + 2, none⟩) (HBw3.out.block b ob)).trans c2
                                    clear ho1 hg1
                                    go_wp2
                                    have HPw3 : Hid (Bk w3 w1.heap.size 9 #[.string xp]) := Lib.hid ((HGw3.out.block _ HPw2.out.lt (by simp [Value.ownBlock]; have := HLw1.out; omega)).trans HPw2.out)
                                    have F1 := HVw3
                                    refine behind_ok ⟨hs1, ?_⟩
                                    clear hs1
                                    refine goes_call (i := 11) rfl (by kernel_rfl) ?_
                                    refine app_s (W := W.take j) (base := wq.heap.size) (vw := v1) F1.out rfl _ _ rfl rfl xp.data.toList w1.heap.size rfl HPw3.out (by rw [List.length_take]; omega) HBw3.out.size ?_
                                    intro v5 w5 ho5 hg5
                                    have HV5 := Lib.hid ho5
                                    have HB5 : Hid (Below wq.heap.size wq w5) := Lib.hid (Below.grown_ HBw3.out hg5 HBw3.out.size (fun q hq => (F1.out.lt q hq).1))
                                    have hs1 : w5.cell? ⟨b, o + k * 6 + 2, none⟩ = some (.string xp) := (World.cell?_of_block (a := ⟨b, o + k * 6 + 2, none⟩) (HB5.out.block b ob)).trans c2
                                    clear ho5 hg5
                                    go_wp2
                                    refine behind_ok ⟨hs1, ?_⟩
                                    clear hs1
                                    refine goes_call (i := 15) rfl (by kernel_rfl) ?_
                                    refine app_txs (W := W.take j ++ [xp.data.toList]) (base := wq.heap.size) (vw := v5) HV5.out rfl _ _ rfl rfl rfl (RT.out _ HB5.out) (by rw [List.length_append, List.length_take, List.length_singleton]; omega) HB5.out.size ?_
                                    intro v6 w6 ho6 hg6
                                    have HV6 := Lib.hid ho6
                                    have HB6 : Hid (Below wq.heap.size wq w6) := Lib.hid (Below.grown_ HB5.out hg6 HB5.out.size (fun q hq => (HV5.out.lt q hq).1))
                                    have hs1 : w6.cell? ⟨b, o + k * 6 + 2, none⟩ = some (.string xp) := (World.cell?_of_block (a := ⟨b, o + k * 6 + 2, none⟩) (HB6.out.block b ob)).trans c2
                                    clear ho6 hg6
                                    go_wp2
                                    refine behind_ok ⟨hs1, ?_⟩
                                    clear hs1
                                    refine goes_call (i := 16) rfl (by kernel_rfl) ?_
                                    go_wp2
                                    have hs1 : w6.cell? ⟨b, o + k * 6 + 2, none⟩ = some (.string xp) := (World.cell?_of_block (a := ⟨b, o + k * 6 + 2, none⟩) (HB6.out.block b ob)).trans c2
                                    refine behind_ok ⟨hs1, ?_⟩
                                    refine goes_done (by kernel_rfl) ?_
                                    go_wp2
                                    have hfin : W.take j ++ [xp.data.toList] ++ W.drop j = insP W xp.data.toList := by unfold insP; rw [HE.out, List.append_assoc]; rfl
                                    have hbw := Below.step2 HB6.out HB.out
                                    refine ⟨⟨k + 1, insP W xp.data.toList, by omega, by go_num, Lib.hid (HS.out.trans HI.out), ?_, hbw⟩, by simp [intOf]; omega⟩
                                    have := own_base HV6.out HB.out.size
                                    rwa [hfin] at this
                                · go_wp2
                                  obtain ⟨w1, hnew⟩ : ∃ x, x = w0.alloc (.cells #[.string xp] 9) := ⟨_, rfl⟩
                                  rw [← hnew]
                                  have HPw1 : Hid (Bk w1 w0.heap.size 9 #[.string xp]) := Lib.hid (by rw [hnew]; exact Bk.at_ rfl)
                                  have HNw1 : Hid (Below w0.heap.size w0 w1) := Lib.hid (by rw [hnew]; exact (Below.refl _ _).alloc (Nat.le_refl _) _)
                                  have HBw1 : Hid (Below wq.heap.size wq w1) := Lib.hid (Below.step2 HNw1.out HB0.out)
                                  have hs1 : w1.cell? ⟨b, o + k * 6 + 2, none⟩ = some (.string xp) := (World.cell?_of_block (a := ⟨b, o + k * 6 + 2, none⟩) (HBw1.out.block b ob)).trans c2
                                  clear hnew
                                  refine behind_ok ⟨hs1, ?_⟩
                                  clear hs1
                                  refine goes_call (i := 0) rfl (by kernel_rfl) ?_
                                  go_wp2
                                  obtain ⟨w2, hnew⟩ : ∃ x, x = w1.alloc (.cells #[] 9) := ⟨_, rfl⟩
                                  rw [← hnew]
                                  have HRw2 : Hid (w2.ownsRow wq.heap.size 9 1 (.slice (some ⟨w1.heap.size, 0, none⟩) 0 0) 0 []) := Lib.hid (by rw [hnew]; exact World.ownsRow_made _ #[] 0 HBw1.out.size (by unfold maxLen; omega) rfl)
                                  have HMw2 : Hid (Below w1.heap.size w1 w2) := Lib.hid (by rw [hnew]; exact (Below.refl _ _).alloc (Nat.le_refl _) _)
                                  have HBw2 : Hid (Below wq.heap.size wq w2) := Lib.hid (Below.step2 HMw2.out HBw1.out)
                                  have HLw2 : Hid (w1.heap.size < w2.heap.size) := Lib.hid (by rw [hnew]; simp)
                                  have hs1 : w2.cell? ⟨b, o + k * 6 + 2, none⟩ = some (.string xp) := (World.cell?_of_block (a := ⟨b, o + k * 6 + 2, none⟩) (HBw2.out.block b ob)).trans c2
                                  clear hnew
                                  have HPw2 := Lib.hid (HPw1.out.below (show Below w1.heap.size w1 w2 from HMw2.out) HPw1.out.lt)
                                  refine behind_ok ⟨hs1, ?_⟩
                                  clear hs1
                                  refine goes_call (i := 4) rfl (by kernel_rfl) ?_
                                  refine app_txs (W := []) (base := wq.heap.size) (vw := .slice (some ⟨w1.heap.size, 0, none⟩) 0 0) HRw2.out rfl _ _ rfl rfl rfl (RH.out _ HBw2.out) (by simp; omega) HBw2.out.size ?_
                                  intro v1 w3 ho1 hg1
                                  have HVw3 : Hid (w3.ownsRow wq.heap.size 9 1 v1 (W.take j).length (Ss (W.take j))) := Lib.hid (by simpa using ho1)
                                  have HGw3 := Lib.hid hg1
                                  have HBw3 : Hid (Below wq.heap.size wq w3) := Lib.hid (Below.grown_ HBw2.out hg1 HBw2.out.size (fun q hq => (HRw2.out.lt q hq).1))
                                  have hs1 : w3.cell? ⟨b, o + k * 6 + 2, none⟩ = some (.string xp) := (World.cell?_of_block (a := ⟨b, o + k * 6 + 2, none⟩) (HBw3.out.block b ob)).trans c2
                                  clear ho1 hg1
                                  go_wp2
                                  have HPw3 : Hid (Bk w3 w0.heap.size 9 #[.string xp]) := Lib.hid ((HGw3.out.block _ HPw2.out.lt (by simp [Value.ownBlock]; have := HPw1.out.lt; omega)).trans HPw2.out)
                                  have F1 := HVw3
                                  refine behind_ok ⟨hs1, ?_⟩
                                  clear hs1
                                  refine goes_call (i := 11) rfl (by kernel_rfl) ?_
                                  refine app_s (W := W.take j) (base := wq.heap.size) (vw := v1) F1.out rfl _ _ rfl rfl xp.data.toList w0.heap.size rfl HPw3.out (by rw [List.length_take]; omega) HBw3.out.size ?_
                                  intro v5 w5 ho5 hg5
                                  have HV5 := Lib.hid ho5
                                  have HB5 : Hid (Below wq.heap.size wq w5) := Lib.hid (Below.grown_ HBw3.out hg5 HBw3.out.size (fun q hq => (F1.out.lt q hq).1))
                                  have hs1 : w5.cell? ⟨b, o + k * 6 + 2, none⟩ = some (.string xp) := (World.cell?_of_block (a := ⟨b, o + k * 6 + 2, none⟩) (HB5.out.block b ob)).trans c2
                                  clear ho5 hg5
                                  go_wp2
                                  refine behind_ok ⟨hs1, ?_⟩
                                  clear hs1
                                  refine goes_call (i := 15) rfl (by kernel_rfl) ?_
                                  refine app_txs (W := W.take j ++ [xp.data.toList]) (base := wq.heap.size) (vw := v5) HV5.out rfl _ _ rfl rfl rfl (RT.out _ HB5.out) (by rw [List.length_append, List.length_take, List.length_singleton]; omega) HB5.out.size ?_
                                  intro v6 w6 ho6 hg6
                                  have HV6 := Lib.hid ho6
                                  have HB6 : Hid (Below wq.heap.size wq w6) := Lib.hid (Below.grown_ HB5.out hg6 HB5.out.size (fun q hq => (HV5.out.lt q hq).1))
                                  have hs1 : w6.cell? ⟨b, o + k * 6 + 2, none⟩ = some (.string xp) := (World.cell?_of_block (a := ⟨b, o + k * 6 + 2, none⟩) (HB6.out.block b ob)).trans c2
                                  clear ho6 hg6
                                  go_wp2
                                  refine behind_ok ⟨hs1, ?_⟩
                                  clear hs1
                                  refine goes_call (i := 16) rfl (by kernel_rfl) ?_
                                  go_wp2
                                  have hs1 : w6.cell? ⟨b, o + k * 6 + 2, none⟩ = some (.string xp) := (World.cell?_of_block (a := ⟨b, o + k * 6 + 2, none⟩) (HB6.out.block b ob)).trans c2
                                  refine behind_ok ⟨hs1, ?_⟩
                                  refine goes_done (by kernel_rfl) ?_
                                  go_wp2
                                  have hfin : W.take j ++ [xp.data.toList] ++ W.drop j = insP W xp.data.toList := by unfold insP; rw [HE.out, List.append_assoc]; rfl
                                  have hbw := Below.step2 HB6.out HB.out
                                  refine ⟨⟨k + 1, insP W xp.data.toList, by omega, by go_num, Lib.hid (HS.out.trans HI.out), ?_, hbw⟩, by simp [intOf]; omega⟩
                                  have := own_base HV6.out HB.out.size
                                  rwa [hfin] at this)
              · have RH : Hid (∀ W', Below wq.heap.size wq W' → Rws tx 1 W' W'.heap.size (some ⟨b2, 0, none⟩) j ca (W.take j)) := Lib.hid fun W' hW => (HR.out.take tx_wide hj).below hW (Nat.le_refl _) hW.size
                by_cases y9 : ca = j
                · have RT : Hid (∀ W', Below wq.heap.size wq W' → Rws tx 1 W' W'.heap.size (some ⟨b2, 0, none⟩) (W.length - j) 0 (W.drop j)) := Lib.hid fun W' hW => by
                    have e : W.length - j = 0 := by omega
                    rw [e]
                    exact Rws.none_of (List.drop_eq_nil_of_le (by omega)) (by omega)
                  rw [y9] at RH
                  clear HRc
                  (
                                  have hwl := HWL.out
                                  obtain ⟨w0, hw0⟩ : ∃ x, x = ((wq.drewN q0).drewN nq).drew := ⟨_, rfl⟩
                                  have HB0 : Hid (Below wq.heap.size wq w0) := Lib.hid (by rw [hw0]; exact (by repeat (first | with_reducible exact Below.refl _ _ | with_reducible assumption | with_reducible refine Below.drew ?_ | with_reducible refine Below.drewN ?_ _ | with_reducible refine Below.alloc2 ?_ _ | with_reducible refine Below.alloc ?_ (by first | omega | (simp <;> omega)) _ | with_reducible refine Below.setCell ?_ (by first | omega | (simp <;> omega)) _ | with_reducible refine Below.step2 (by with_reducible assumption) ?_ | with_reducible refine Below.step (by with_reducible assumption) ?_ (by first | omega | (simp <;> omega)))))
                                  have hs1 : w0.cell? ⟨b, o + k * 6 + 2, none⟩ = some (.string xp) := by rw [hw0]; exact c2
                                  refine region_goes (n := 17) (fun w' => w'.cell? ⟨b, o + k * 6 + 2, none⟩ = some (.string xp)) [] (by kernel_rfl) rfl ?_
                                  rw [← hw0]
                                  clear hw0
                                  refine goes_takeE (i := 1) (E := []) (v := .slice (some ⟨b2, 0, none⟩) W.length ca) rfl (by kernel_rfl) rfl (fun _ _ _ h => h) (by intro w' hw'; go_simp) hs1 ?_
                                  refine goes_takeE (i := 2) (E := []) (v := .int .i64 (j : Int)) rfl (by kernel_rfl) rfl (fun _ _ _ h => h) (by intro w' hw'; go_simp) hs1 ?_
                                  refine goes_takeE (i := 3) (E := []) (v := .slice (some ⟨b2, 0, none⟩) j ca) rfl (by kernel_rfl) rfl (fun _ _ _ h => h) (by intro w' hw'; go_simp) hs1 ?_
                                  refine goes_takeE (i := 5) (E := []) (v := .slice (some ⟨b, o, none⟩) n c) rfl (by kernel_rfl) rfl (fun _ _ _ h => h) (by intro w' hw'; go_simp) hs1 ?_
                                  refine goes_takeE (i := 6) (E := []) (v := .int .i64 (k : Int)) rfl (by kernel_rfl) rfl (fun _ _ _ h => h) (by intro w' hw'; go_simp) hs1 ?_
                                  refine goes_takeE (i := 7) (E := []) (v := .pointer (some ⟨b, o + k * 6, none⟩)) rfl (by kernel_rfl) rfl (fun _ _ _ h => h) (by intro w' hw'; go_simp) hs1 ?_
                                  refine goes_takeE (i := 8) (E := []) (v := .pointer (some ⟨b, o + k * 6 + 2, none⟩)) rfl (by kernel_rfl) rfl (fun _ _ _ h => h) (by intro w' hw'; go_simp) hs1 ?_
                                  refine goes_takeE (i := 9) (E := []) (v := .string xp) rfl (by kernel_rfl) rfl (fun _ _ _ h => h) (by intro w' hw'; go_simp) hs1 ?_
                                  refine goes_takeE (i := 12) (E := []) (v := .slice (some ⟨b2, 0, none⟩) W.length ca) rfl (by kernel_rfl) rfl (fun _ _ _ h => h) (by intro w' hw'; go_simp) hs1 ?_
                                  refine goes_takeE (i := 13) (E := []) (v := .int .i64 (j : Int)) rfl (by kernel_rfl) rfl (fun _ _ _ h => h) (by intro w' hw'; go_simp) hs1 ?_
                                  refine goes_takeE (i := 14) (E := []) (v := .slice (some ⟨b2, 0, none⟩) (W.length - j) (ca - j)) rfl (by kernel_rfl) rfl (fun _ _ _ h => h) (by intro w' hw'; go_simp) hs1 ?_
                                  clear hs1
                                  refine goes_two (i := 0) (j := 10) rfl rfl (by kernel_rfl) ?_ ?_
                                  · go_wp2
                                    obtain ⟨w1, hnew⟩ : ∃ x, x = w0.alloc (.cells #[] 9) := ⟨_, rfl⟩
                                    rw [← hnew]
                                    have HRw1 : Hid (w1.ownsRow wq.heap.size 9 1 (.slice (some ⟨w0.heap.size, 0, none⟩) 0 0) 0 []) := Lib.hid (by rw [hnew]; exact World.ownsRow_made _ #[] 0 HB0.out.size (by unfold maxLen; omega) rfl)
                                    have HMw1 : Hid (Below w0.heap.size w0 w1) := Lib.hid (by rw [hnew]; exact (Below.refl _ _).alloc (Nat.le_refl _) _)
                                    have HBw1 : Hid (Below wq.heap.size wq w1) := Lib.hid (Below.step2 HMw1.out HB0.out)
                                    have HLw1 : Hid (w0.heap.size < w1.heap.size) := Lib.hid (by rw [hnew]; simp)
                                    have hs1 : w1.cell? ⟨b, o + k * 6 + 2, none⟩ = some (.string xp) := (World.cell?_of_block (a := ⟨b, o + k * 6 + 2, none⟩) (HBw1.out.block b ob)).trans c2
                                    clear hnew
                                    refine behind_ok ⟨hs1, ?_⟩
                                    clear hs1
                                    refine goes_two (i := 4) (j := 10) rfl rfl (by kernel_rfl) ?_ ?_
                                    · refine app_txs (W := []) (base := wq.heap.size) (vw := .slice (some ⟨w0.heap.size, 0, none⟩) 0 0) HRw1.out rfl _ _ rfl rfl rfl (RH.out _ HBw1.out) (by simp; omega) HBw1.out.size ?_
                                      intro v1 w2 ho1 hg1
                                      have HVw2 : Hid (w2.ownsRow wq.heap.size 9 1 v1 (W.take j).length (Ss (W.take j))) := Lib.hid (by simpa using ho1)
                                      have HGw2 := Lib.hid hg1
                                      have HBw2 : Hid (Below wq.heap.size wq w2) := Lib.hid (Below.grown_ HBw1.out hg1 HBw1.out.size (fun q hq => (HRw1.out.lt q hq).1))
                                      have hs1 : w2.cell? ⟨b, o + k * 6 + 2, none⟩ = some (.string xp) := (World.cell?_of_block (a := ⟨b, o + k * 6 + 2, none⟩) (HBw2.out.block b ob)).trans c2
                                      clear ho1 hg1
                                      go_wp2
                                      refine behind_ok ⟨hs1, ?_⟩
                                      clear hs1
                                      refine goes_call (i := 10) rfl (by kernel_rfl) ?_
                                      go_wp2
                                      obtain ⟨w3, hnew⟩ : ∃ x, x = w2.alloc (.cells #[.string xp] 9) := ⟨_, rfl⟩
                                      rw [← hnew]
                                      have HPw3 : Hid (Bk w3 w2.heap.size 9 #[.string xp]) := Lib.hid (by rw [hnew]; exact Bk.at_ rfl)
                                      have HNw3 : Hid (Below w2.heap.size w2 w3) := Lib.hid (by rw [hnew]; exact (Below.refl _ _).alloc (Nat.le_refl _) _)
                                      have HBw3 : Hid (Below wq.heap.size wq w3) := Lib.hid (Below.step2 HNw3.out HBw2.out)
                                      have hs1 : w3.cell? ⟨b, o + k * 6 + 2, none⟩ = some (.string xp) := (World.cell?_of_block (a := ⟨b, o + k * 6 + 2, none⟩) (HBw3.out.block b ob)).trans c2
                                      clear hnew
                                      have F1 := Lib.hid (own_step HVw2.out HNw3.out)
                                      refine behind_ok ⟨hs1, ?_⟩
                                      clear hs1
                                      refine goes_call (i := 11) rfl (by kernel_rfl) ?_
                                      refine app_s (W := W.take j) (base := wq.heap.size) (vw := v1) F1.out rfl _ _ rfl rfl xp.data.toList w2.heap.size rfl HPw3.out (by rw [List.length_take]; omega) HBw3.out.size ?_
                                      intro v5 w5 ho5 hg5
                                      have HV5 := Lib.hid ho5
                                      have HB5 : Hid (Below wq.heap.size wq w5) := Lib.hid (Below.grown_ HBw3.out hg5 HBw3.out.size (fun q hq => (F1.out.lt q hq).1))
                                      have hs1 : w5.cell? ⟨b, o + k * 6 + 2, none⟩ = some (.string xp) := (World.cell?_of_block (a := ⟨b, o + k * 6 + 2, none⟩) (HB5.out.block b ob)).trans c2
                                      clear ho5 hg5
                                      go_wp2
                                      refine behind_ok ⟨hs1, ?_⟩
                                      clear hs1
                                      refine goes_call (i := 15) rfl (by kernel_rfl) ?_
                                      refine app_txs (W := W.take j ++ [xp.data.toList]) (base := wq.heap.size) (vw := v5) HV5.out rfl _ _ rfl rfl rfl (RT.out _ HB5.out) (by rw [List.length_append, List.length_take, List.length_singleton]; omega) HB5.out.size ?_
                                      intro v6 w6 ho6 hg6
                                      have HV6 := Lib.hid ho6
                                      have HB6 : Hid (Below wq.heap.size wq w6) := Lib.hid (Below.grown_ HB5.out hg6 HB5.out.size (fun q hq => (HV5.out.lt q hq).1))
                                      have hs1 : w6.cell? ⟨b, o + k * 6 + 2, none⟩ = some (.string xp) := (World.cell?_of_block (a := ⟨b, o + k * 6 + 2, none⟩) (HB6.out.block b ob)).trans c2
                                      clear ho6 hg6
                                      go_wp2
                                      refine behind_ok ⟨hs1, ?_⟩
                                      clear hs1
                                      refine goes_call (i := 16) rfl (by kernel_rfl) ?_
                                      go_wp2
                                      have hs1 : w6.cell? ⟨b, o + k * 6 + 2, none⟩ = some (.string xp) := (World.cell?_of_block (a := ⟨b, o + k * 6 + 2, none⟩) (HB6.out.block b ob)).trans c2
                                      refine behind_ok ⟨hs1, ?_⟩
                                      refine goes_done (by kernel_rfl) ?_
                                      go_wp2
                                      have hfin : W.take j ++ [xp.data.toList] ++ W.drop j = insP W xp.data.toList := by unfold insP; rw [HE.out, List.append_assoc]; rfl
                                      have hbw := Below.step2 HB6.out HB.out
                                      refine ⟨⟨k + 1, insP W xp.data.toList, by omega, by go_num, Lib.hid (HS.out.trans HI.out), ?_, hbw⟩, by simp [intOf]; omega⟩
                                      have := own_base HV6.out HB.out.size
                                      rwa [hfin] at this
                                    · go_wp2
                                      obtain ⟨w2, hnew⟩ : ∃ x, x = w1.alloc (.cells #[.string xp] 9) := ⟨_, rfl⟩
                                      rw [← hnew]
                                      have HPw2 : Hid (Bk w2 w1.heap.size 9 #[.string xp]) := Lib.hid (by rw [hnew]; exact Bk.at_ rfl)
                                      have HNw2 : Hid (Below w1.heap.size w1 w2) := Lib.hid (by rw [hnew]; exact (Below.refl _ _).alloc (Nat.le_refl _) _)
                                      have HBw2 : Hid (Below wq.heap.size wq w2) := Lib.hid (Below.step2 HNw2.out HBw1.out)
                                      have hs1 : w2.cell? ⟨b, o + k * 6 + 2, none⟩ = some (.string xp) := (World.cell?_of_block (a := ⟨b, o + k * 6 + 2, none⟩) (HBw2.out.block b ob)).trans c2
                                      clear hnew
                                      have HRw2 := Lib.hid (own_step HRw1.out HNw2.out)
                                      refine behind_ok ⟨hs1, ?_⟩
                                      clear hs1
                                      refine goes_call (i := 4) rfl (by kernel_rfl) ?_
                                      refine app_txs (W := []) (base := wq.heap.size) (vw := .slice (some ⟨w0.heap.size, 0, none⟩) 0 0) HRw2.out rfl _ _ rfl rfl rfl (RH.out _ HBw2.out) (by simp; omega) HBw2.out.size ?_
                                      intro v1 w3 ho1 hg1
                                      have HVw3 : Hid (w3.ownsRow wq.heap.size 9 1 v1 (W.take j).length (Ss (W.take j))) := Lib.hid (by simpa using ho1)
                                      have HGw3 := Lib.hid hg1
                                      have HBw3 : Hid (Below wq.heap.size wq w3) := Lib.hid (Below.grown_ HBw2.out hg1 HBw2.out.size (fun q hq => (HRw2.out.lt q hq).1))
                                      have hs1 : w3.cell? ⟨b, o + k * 6 + 2, none⟩ = some (.string xp) := (World.cell?_of_block (a := ⟨b, o + k * 6 + 2, none⟩) (HBw3.out.block b ob)).trans c2
                                      clear ho1 hg1
                                      go_wp2
                                      have HPw3 : Hid (Bk w3 w1.heap.size 9 #[.string xp]) := Lib.hid ((HGw3.out.block _ HPw2.out.lt (by simp [Value.ownBlock]; have := HLw1.out; omega)).trans HPw2.out)
                                      have F1 := HVw3
                                      refine behind_ok ⟨hs1, ?_⟩
                                      clear hs1
                                      refine goes_call (i := 11) rfl (by kernel_rfl) ?_
                                      refine app_s (W := W.take j) (base := wq.heap.size) (vw := v1) F1.out rfl _ _ rfl rfl xp.data.toList w1.heap.size rfl HPw3.out (by rw [List.length_take]; omega) HBw3.out.size ?_
                                      intro v5 w5 ho5 hg5
                                      have HV5 := Lib.hid ho5
                                      have HB5 : Hid (Below wq.heap.size wq w5) := Lib.hid (Below.grown_ HBw3.out hg5 HBw3.out.size (fun q hq => (F1.out.lt q hq).1))
                                      have hs1 : w5.cell? ⟨b, o + k * 6 + 2, none⟩ = some (.string xp) := (World.cell?_of_block (a := ⟨b, o + k * 6 + 2, none⟩) (HB5.out.block b ob)).trans c2
                                      clear ho5 hg5
                                      go_wp2
                                      refine behind_ok ⟨hs1, ?_⟩
                                      clear hs1
                                      refine goes_call (i := 15) rfl (by kernel_rfl) ?_
                                      refine app_txs (W := W.take j ++ [xp.data.toList]) (base := wq.heap.size) (vw := v5) HV5.out rfl _ _ rfl rfl rfl (RT.out _ HB5.out) (by rw [List.length_append, List.length_take, List.length_singleton]; omega) HB5.out.size ?_
                                      intro v6 w6 ho6 hg6
                                      have HV6 := Lib.hid ho6
                                      have HB6 : Hid (Below wq.heap.size wq w6) := Lib.hid (Below.grown_ HB5.out hg6 HB5.out.size (fun q hq => (HV5.out.lt q hq).1))
                                      have hs1 : w6.cell? ⟨b, o + k * 6 + 2, none⟩ = some (.string xp) := (World.cell?_of_block (a := ⟨b, o + k * 6 + 2, none⟩) (HB6.out.block b ob)).trans c2
                                      clear ho6 hg6
                                      go_wp2
                                      refine behind_ok ⟨hs1, ?_⟩
                                      clear hs1
                                      refine goes_call (i := 16) rfl (by kernel_rfl) ?_
                                      go_wp2
                                      have hs1 : w6.cell? ⟨b, o + k * 6 + 2, none⟩ = some (.string xp) := (World.cell?_of_block (a := ⟨b, o + k * 6 + 2, none⟩) (HB6.out.block b ob)).trans c2
                                      refine behind_ok ⟨hs1, ?_⟩
                                      refine goes_done (by kernel_rfl) ?_
                                      go_wp2
                                      have hfin : W.take j ++ [xp.data.toList] ++ W.drop j = insP W xp.data.toList := by unfold insP; rw [HE.out, List.append_assoc]; rfl
                                      have hbw := Below.step2 HB6.out HB.out
                                      refine ⟨⟨k + 1, insP W xp.data.toList, by omega, by go_num, Lib.hid (HS.out.trans HI.out), ?_, hbw⟩, by simp [intOf]; omega⟩
                                      have := own_base HV6.out HB.out.size
                                      rwa [hfin] at this
                                  · go_wp2
                                    obtain ⟨w1, hnew⟩ : ∃ x, x = w0.alloc (.cells #[.string xp] 9) := ⟨_, rfl⟩
                                    rw [← hnew]
                                    have HPw1 : Hid (Bk w1 w0.heap.size 9 #[.string xp]) := Lib.hid (by rw [hnew]; exact Bk.at_ rfl)
                                    have HNw1 : Hid (Below w0.heap.size w0 w1) := Lib.hid (by rw [hnew]; exact (Below.refl _ _).alloc (Nat.le_refl _) _)
                                    have HBw1 : Hid (Below wq.heap.size wq w1) := Lib.hid (Below.step2 HNw1.out HB0.out)
                                    have hs1 : w1.cell? ⟨b, o + k * 6 + 2, none⟩ = some (.string xp) := (World.cell?_of_block (a := ⟨b, o + k * 6 + 2, none⟩) (HBw1.out.block b ob)).trans c2
                                    clear hnew
                                    refine behind_ok ⟨hs1, ?_⟩
                                    clear hs1
                                    refine goes_call (i := 0) rfl (by kernel_rfl) ?_
                                    go_wp2
                                    obtain ⟨w2, hnew⟩ : ∃ x, x = w1.alloc (.cells #[] 9) := ⟨_, rfl⟩
                                    rw [← hnew]
                                    have HRw2 : Hid (w2.ownsRow wq.heap.size 9 1 (.slice (some ⟨w1.heap.size, 0, none⟩) 0 0) 0 []) := Lib.hid (by rw [hnew]; exact World.ownsRow_made _ #[] 0 HBw1.out.size (by unfold maxLen; omega) rfl)
                                    have HMw2 : Hid (Below w1.heap.size w1 w2) := Lib.hid (by rw [hnew]; exact (Below.refl _ _).alloc (Nat.le_refl _) _)
                                    have HBw2 : Hid (Below wq.heap.size wq w2) := Lib.hid (Below.step2 HMw2.out HBw1.out)
                                    have HLw2 : Hid (w1.heap.size < w2.heap.size) := Lib.hid (by rw [hnew]; simp)
                                    have hs1 : w2.cell? ⟨b, o + k * 6 + 2, none⟩ = some (.string xp) := (World.cell?_of_block (a := ⟨b, o + k * 6 + 2, none⟩) (HBw2.out.block b ob)).trans c2
                                    clear hnew
                                    have HPw2 := Lib.hid (HPw1.out.below (show Below w1.heap.size w1 w2 from HMw2.out) HPw1.out.lt)
                                    refine behind_ok ⟨hs1, ?_⟩
                                    clear hs1
                                    refine goes_call (i := 4) rfl (by kernel_rfl) ?_
                                    refine app_txs (W := []) (base := wq.heap.size) (vw := .slice (some ⟨w1.heap.size, 0, none⟩) 0 0) HRw2.out rfl _ _ rfl rfl rfl (RH.out _ HBw2.out) (by simp; omega) HBw2.out.size ?_
                                    intro v1 w3 ho1 hg1
                                    have HVw3 : Hid (w3.ownsRow wq.heap.size 9 1 v1 (W.take j).length (Ss (W.take j))) := Lib.hid (by simpa using ho1)
                                    have HGw3 := Lib.hid hg1
                                    have HBw3 : Hid (Below wq.heap.size wq w3) := Lib.hid (Below.grown_ HBw2.out hg1 HBw2.out.size (fun q hq => (HRw2.out.lt q hq).1))
                                    have hs1 : w3.cell? ⟨b, o + k * 6 + 2, none⟩ = some (.string xp) := (World.cell?_of_block (a := ⟨b, o + k * 6 + 2, none⟩) (HBw3.out.block b ob)).trans c2
                                    clear ho1 hg1
                                    go_wp2
                                    have HPw3 : Hid (Bk w3 w0.heap.size 9 #[.string xp]) := Lib.hid ((HGw3.out.block _ HPw2.out.lt (by simp [Value.ownBlock]; have := HPw1.out.lt; omega)).trans HPw2.out)
                                    have F1 := HVw3
                                    refine behind_ok ⟨hs1, ?_⟩
                                    clear hs1
                                    refine goes_call (i := 11) rfl (by kernel_rfl) ?_
                                    refine app_s (W := W.take j) (base := wq.heap.size) (vw := v1) F1.out rfl _ _ rfl rfl xp.data.toList w0.heap.size rfl HPw3.out (by rw [List.length_take]; omega) HBw3.out.size ?_
                                    intro v5 w5 ho5 hg5
                                    have HV5 := Lib.hid ho5
                                    have HB5 : Hid (Below wq.heap.size wq w5) := Lib.hid (Below.grown_ HBw3.out hg5 HBw3.out.size (fun q hq => (F1.out.lt q hq).1))
                                    have hs1 : w5.cell? ⟨b, o + k * 6 + 2, none⟩ = some (.string xp) := (World.cell?_of_block (a := ⟨b, o + k * 6 + 2, none⟩) (HB5.out.block b ob)).trans c2
                                    clear ho5 hg5
                                    go_wp2
                                    refine behind_ok ⟨hs1, ?_⟩
                                    clear hs1
                                    refine goes_call (i := 15) rfl (by kernel_rfl) ?_
                                    refine app_txs (W := W.take j ++ [xp.data.toList]) (base := wq.heap.size) (vw := v5) HV5.out rfl _ _ rfl rfl rfl (RT.out _ HB5.out) (by rw [List.length_append, List.length_take, List.length_singleton]; omega) HB5.out.size ?_
                                    intro v6 w6 ho6 hg6
                                    have HV6 := Lib.hid ho6
                                    have HB6 : Hid (Below wq.heap.size wq w6) := Lib.hid (Below.grown_ HB5.out hg6 HB5.out.size (fun q hq => (HV5.out.lt q hq).1))
                                    have hs1 : w6.cell? ⟨b, o + k * 6 + 2, none⟩ = some (.string xp) := (World.cell?_of_block (a := ⟨b, o + k * 6 + 2, none⟩) (HB6.out.block b ob)).trans c2
                                    clear ho6 hg6
                                    go_wp2
                                    refine behind_ok ⟨hs1, ?_⟩
                                    clear hs1
                                    refine goes_call (i := 16) rfl (by kernel_rfl) ?_
                                    go_wp2
                                    have hs1 : w6.cell? ⟨b, o + k * 6 + 2, none⟩ = some (.string xp) := (World.cell?_of_block (a := ⟨b, o + k * 6 + 2, none⟩) (HB6.out.block b ob)).trans c2
                                    refine behind_ok ⟨hs1, ?_⟩
                                    refine goes_done (by kernel_rfl) ?_
                                    go_wp2
                                    have hfin : W.take j ++ [xp.data.toList] ++ W.drop j = insP W xp.data.toList := by unfold insP; rw [HE.out, List.append_assoc]; rfl
                                    have hbw := Below.step2 HB6.out HB.out
                                    refine ⟨⟨k + 1, insP W xp.data.toList, by omega, by go_num, Lib.hid (HS.out.trans HI.out), ?_, hbw⟩, by simp [intOf]; omega⟩
                                    have := own_base HV6.out HB.out.size
                                    rwa [hfin] at this)
                · have RT : Hid (∀ W', Below wq.heap.size wq W' → Rws tx 1 W' W'.heap.size (some ⟨b2, j, none⟩) (W.length - j) (ca - j) (W.drop j)) := Lib.hid fun W' hW => by
                    have := (HR.out.tail tx_wide hj).below hW (Nat.le_refl _) hW.size
                    rwa [Nat.mul_one, Nat.zero_add] at this
                  clear HRc
                  (
                                  have hwl := HWL.out
                                  obtain ⟨w0, hw0⟩ : ∃ x, x = ((wq.drewN q0).drewN nq).drew := ⟨_, rfl⟩
                                  have HB0 : Hid (Below wq.heap.size wq w0) := Lib.hid (by rw [hw0]; exact (by repeat (first | with_reducible exact Below.refl _ _ | with_reducible assumption | with_reducible refine Below.drew ?_ | with_reducible refine Below.drewN ?_ _ | with_reducible refine Below.alloc2 ?_ _ | with_reducible refine Below.alloc ?_ (by first | omega | (simp <;> omega)) _ | with_reducible refine Below.setCell ?_ (by first | omega | (simp <;> omega)) _ | with_reducible refine Below.step2 (by with_reducible assumption) ?_ | with_reducible refine Below.step (by with_reducible assumption) ?_ (by first | omega | (simp <;> omega)))))
                                  have hs1 : w0.cell? ⟨b, o + k * 6 + 2, none⟩ = some (.string xp) := by rw [hw0]; exact c2
                                  refine region_goes (n := 17) (fun w' => w'.cell? ⟨b, o + k * 6 + 2, none⟩ = some (.string xp)) [] (by kernel_rfl) rfl ?_
                                  rw [← hw0]
                                  clear hw0
                                  refine goes_takeE (i := 1) (E := []) (v := .slice (some ⟨b2, 0, none⟩) W.length ca) rfl (by kernel_rfl) rfl (fun _ _ _ h => h) (by intro w' hw'; go_simp) hs1 ?_
                                  refine goes_takeE (i := 2) (E := []) (v := .int .i64 (j : Int)) rfl (by kernel_rfl) rfl (fun _ _ _ h => h) (by intro w' hw'; go_simp) hs1 ?_
                                  refine goes_takeE (i := 3) (E := []) (v := .slice (some ⟨b2, 0, none⟩) j ca) rfl (by kernel_rfl) rfl (fun _ _ _ h => h) (by intro w' hw'; go_simp) hs1 ?_
                                  refine goes_takeE (i := 5) (E := []) (v := .slice (some ⟨b, o, none⟩) n c) rfl (by kernel_rfl) rfl (fun _ _ _ h => h) (by intro w' hw'; go_simp) hs1 ?_
                                  refine goes_takeE (i := 6) (E := []) (v := .int .i64 (k : Int)) rfl (by kernel_rfl) rfl (fun _ _ _ h => h) (by intro w' hw'; go_simp) hs1 ?_
                                  refine goes_takeE (i := 7) (E := []) (v := .pointer (some ⟨b, o + k * 6, none⟩)) rfl (by kernel_rfl) rfl (fun _ _ _ h => h) (by intro w' hw'; go_simp) hs1 ?_
                                  refine goes_takeE (i := 8) (E := []) (v := .pointer (some ⟨b, o + k * 6 + 2, none⟩)) rfl (by kernel_rfl) rfl (fun _ _ _ h => h) (by intro w' hw'; go_simp) hs1 ?_
                                  refine goes_takeE (i := 9) (E := []) (v := .string xp) rfl (by kernel_rfl) rfl (fun _ _ _ h => h) (by intro w' hw'; go_simp) hs1 ?_
                                  refine goes_takeE (i := 12) (E := []) (v := .slice (some ⟨b2, 0, none⟩) W.length ca) rfl (by kernel_rfl) rfl (fun _ _ _ h => h) (by intro w' hw'; go_simp) hs1 ?_
                                  refine goes_takeE (i := 13) (E := []) (v := .int .i64 (j : Int)) rfl (by kernel_rfl) rfl (fun _ _ _ h => h) (by intro w' hw'; go_simp) hs1 ?_
                                  refine goes_takeE (i := 14) (E := []) (v := .slice (some ⟨b2, j, none⟩) (W.length - j) (ca - j)) rfl (by kernel_rfl) rfl (fun _ _ _ h => h) (by intro w' hw'; go_simp) hs1 ?_
                                  clear hs1
                                  refine goes_two (i := 0) (j := 10) rfl rfl (by kernel_rfl) ?_ ?_
                                  · go_wp2
                                    obtain ⟨w1, hnew⟩ : ∃ x, x = w0.alloc (.cells #[] 9) := ⟨_, rfl⟩
                                    rw [← hnew]
                                    have HRw1 : Hid (w1.ownsRow wq.heap.size 9 1 (.slice (some ⟨w0.heap.size, 0, none⟩) 0 0) 0 []) := Lib.hid (by rw [hnew]; exact World.ownsRow_made _ #[] 0 HB0.out.size (by unfold maxLen; omega) rfl)
                                    have HMw1 : Hid (Below w0.heap.size w0 w1) := Lib.hid (by rw [hnew]; exact (Below.refl _ _).alloc (Nat.le_refl _) _)
                                    have HBw1 : Hid (Below wq.heap.size wq w1) := Lib.hid (Below.step2 HMw1.out HB0.out)
                                    have HLw1 : Hid (w0.heap.size < w1.heap.size) := Lib.hid (by rw [hnew]; simp)
                                    have hs1 : w1.cell? ⟨b, o + k * 6 + 2, none⟩ = some (.string xp) := (World.cell?_of_block (a := ⟨b, o + k * 6 + 2, none⟩) (HBw1.out.block b ob)).trans c2
                                    clear hnew
                                    refine behind_ok ⟨hs1, ?_⟩
                                    clear hs1
                                    refine goes_two (i := 4) (j := 10) rfl rfl (by kernel_rfl) ?_ ?_
                                    · refine app_txs (W := []) (base := wq.heap.size) (vw := .slice (some ⟨w0.heap.size, 0, none⟩) 0 0) HRw1.out rfl _ _ rfl rfl rfl (RH.out _ HBw1.out) (by simp; omega) HBw1.out.size ?_
                                      intro v1 w2 ho1 hg1
                                      have HVw2 : Hid (w2.ownsRow wq.heap.size 9 1 v1 (W.take j).length (Ss (W.take j))) := Lib.hid (by simpa using ho1)
                                      have HGw2 := Lib.hid hg1
                                      have HBw2 : Hid (Below wq.heap.size wq w2) := Lib.hid (Below.grown_ HBw1.out hg1 HBw1.out.size (fun q hq => (HRw1.out.lt q hq).1))
                                      have hs1 : w2.cell? ⟨b, o + k * 6 + 2, none⟩ = some (.string xp) := (World.cell?_of_block (a := ⟨b, o + k * 6 + 2, none⟩) (HBw2.out.block b ob)).trans c2
                                      clear ho1 hg1
                                      go_wp2
                                      refine behind_ok ⟨hs1, ?_⟩
                                      clear hs1
                                      refine goes_call (i := 10) rfl (by kernel_rfl) ?_
                                      go_wp2
                                      obtain ⟨w3, hnew⟩ : ∃ x, x = w2.alloc (.cells #[.string xp] 9) := ⟨_, rfl⟩
                                      rw [← hnew]
                                      have HPw3 : Hid (Bk w3 w2.heap.size 9 #[.string xp]) := Lib.hid (by rw [hnew]; exact Bk.at_ rfl)
                                      have HNw3 : Hid (Below w2.heap.size w2 w3) := Lib.hid (by rw [hnew]; exact (Below.refl _ _).alloc (Nat.le_refl _) _)
                                      have HBw3 : Hid (Below wq.heap.size wq w3) := Lib.hid (Below.step2 HNw3.out HBw2.out)
                                      have hs1 : w3.cell? ⟨b, o + k * 6 + 2, none⟩ = some (.string xp) := (World.cell?_of_block (a := ⟨b, o + k * 6 + 2, none⟩) (HBw3.out.block b ob)).trans c2
                                      clear hnew
                                      have F1 := Lib.hid (own_step HVw2.out HNw3.out)
                                      refine behind_ok ⟨hs1, ?_⟩
                                      clear hs1
                                      refine goes_call (i := 11) rfl (by kernel_rfl) ?_
                                      refine app_s (W := W.take j) (base := wq.heap.size) (vw := v1) F1.out rfl _ _ rfl rfl xp.data.toList w2.heap.size rfl HPw3.out (by rw [List.length_take]; omega) HBw3.out.size ?_
                                      intro v5 w5 ho5 hg5
                                      have HV5 := Lib.hid ho5
                                      have HB5 : Hid (Below wq.heap.size wq w5) := Lib.hid (Below.grown_ HBw3.out hg5 HBw3.out.size (fun q hq => (F1.out.lt q hq).1))
                                      have hs1 : w5.cell? ⟨b, o + k * 6 + 2, none⟩ = some (.string xp) := (World.cell?_of_block (a := ⟨b, o + k * 6 + 2, none⟩) (HB5.out.block b ob)).trans c2
                                      clear ho5 hg5
                                      go_wp2
                                      refine behind_ok ⟨hs1, ?_⟩
                                      clear hs1
                                      refine goes_call (i := 15) rfl (by kernel_rfl) ?_
                                      refine app_txs (W := W.take j ++ [xp.data.toList]) (base := wq.heap.size) (vw := v5) HV5.out rfl _ _ rfl rfl rfl (RT.out _ HB5.out) (by rw [List.length_append, List.length_take, List.length_singleton]; omega) HB5.out.size ?_
                                      intro v6 w6 ho6 hg6
                                      have HV6 := Lib.hid ho6
                                      have HB6 : Hid (Below wq.heap.size wq w6) := Lib.hid (Below.grown_ HB5.out hg6 HB5.out.size (fun q hq => (HV5.out.lt q hq).1))
                                      have hs1 : w6.cell? ⟨b, o + k * 6 + 2, none⟩ = some (.string xp) := (World.cell?_of_block (a := ⟨b, o + k * 6 + 2, none⟩) (HB6.out.block b ob)).trans c2
                                      clear ho6 hg6
                                      go_wp2
                                      refine behind_ok ⟨hs1, ?_⟩
                                      clear hs1
                                      refine goes_call (i := 16) rfl (by kernel_rfl) ?_
                                      go_wp2
                                      have hs1 : w6.cell? ⟨b, o + k * 6 + 2, none⟩ = some (.string xp) := (World.cell?_of_block (a := ⟨b, o + k * 6 + 2, none⟩) (HB6.out.block b ob)).trans c2
                                      refine behind_ok ⟨hs1, ?_⟩
                                      refine goes_done (by kernel_rfl) ?_
                                      go_wp2
                                      have hfin : W.take j ++ [xp.data.toList] ++ W.drop j = insP W xp.data.toList := by unfold insP; rw [HE.out, List.append_assoc]; rfl
                                      have hbw := Below.step2 HB6.out HB.out
                                      refine ⟨⟨k + 1, insP W xp.data.toList, by omega, by go_num, Lib.hid (HS.out.trans HI.out), ?_, hbw⟩, by simp [intOf]; omega⟩
                                      have := own_base HV6.out HB.out.size
                                      rwa [hfin] at this
                                    · go_wp2
                                      obtain ⟨w2, hnew⟩ : ∃ x, x = w1.alloc (.cells #[.string xp] 9) := ⟨_, rfl⟩
                                      rw [← hnew]
                                      have HPw2 : Hid (Bk w2 w1.heap.size 9 #[.string xp]) := Lib.hid (by rw [hnew]; exact Bk.at_ rfl)
                                      have HNw2 : Hid (Below w1.heap.size w1 w2) := Lib.hid (by rw [hnew]; exact (Below.refl _ _).alloc (Nat.le_refl _) _)
                                      have HBw2 : Hid (Below wq.heap.size wq w2) := Lib.hid (Below.step2 HNw2.out HBw1.out)
                                      have hs1 : w2.cell? ⟨b, o + k * 6 + 2, none⟩ = some (.string xp) := (World.cell?_of_block (a := ⟨b, o + k * 6 + 2, none⟩) (HBw2.out.block b ob)).trans c2
                                      clear hnew
                                      have HRw2 := Lib.hid (own_step HRw1.out HNw2.out)
                                      refine behind_ok ⟨hs1, ?_⟩
                                      clear hs1
                                      refine goes_call (i := 4) rfl (by kernel_rfl) ?_
                                      refine app_txs (W := []) (base := wq.heap.size) (vw := .slice (some ⟨w0.heap.size, 0, none⟩) 0 0) HRw2.out rfl _ _ rfl rfl rfl (RH.out _ HBw2.out) (by simp; omega) HBw2.out.size ?_
                                      intro v1 w3 ho1 hg1
                                      have HVw3 : Hid (w3.ownsRow wq.heap.size 9 1 v1 (W.take j).length (Ss (W.take j))) := Lib.hid (by simpa using ho1)
                                      have HGw3 := Lib.hid hg1
                                      have HBw3 : Hid (Below wq.heap.size wq w3) := Lib.hid (Below.grown_ HBw2.out hg1 HBw2.out.size (fun q hq => (HRw2.out.lt q hq).1))
                                      have hs1 : w3.cell? ⟨b, o + k * 6 + 2, none⟩ = some (.string xp) := (World.cell?_of_block (a := ⟨b, o + k * 6 + 2, none⟩) (HBw3.out.block b ob)).trans c2
                                      clear ho1 hg1
                                      go_wp2
                                      have HPw3 : Hid (Bk w3 w1.heap.size 9 #[.string xp]) := Lib.hid ((HGw3.out.block _ HPw2.out.lt (by simp [Value.ownBlock]; have := HLw1.out; omega)).trans HPw2.out)
                                      have F1 := HVw3
                                      refine behind_ok ⟨hs1, ?_⟩
                                      clear hs1
                                      refine goes_call (i := 11) rfl (by kernel_rfl) ?_
                                      refine app_s (W := W.take j) (base := wq.heap.size) (vw := v1) F1.out rfl _ _ rfl rfl xp.data.toList w1.heap.size rfl HPw3.out (by rw [List.length_take]; omega) HBw3.out.size ?_
                                      intro v5 w5 ho5 hg5
                                      have HV5 := Lib.hid ho5
                                      have HB5 : Hid (Below wq.heap.size wq w5) := Lib.hid (Below.grown_ HBw3.out hg5 HBw3.out.size (fun q hq => (F1.out.lt q hq).1))
                                      have hs1 : w5.cell? ⟨b, o + k * 6 + 2, none⟩ = some (.string xp) := (World.cell?_of_block (a := ⟨b, o + k * 6 + 2, none⟩) (HB5.out.block b ob)).trans c2
                                      clear ho5 hg5
                                      go_wp2
                                      refine behind_ok ⟨hs1, ?_⟩
                                      clear hs1
                                      refine goes_call (i := 15) rfl (by kernel_rfl) ?_
                                      refine app_txs (W := W.take j ++ [xp.data.toList]) (base := wq.heap.size) (vw := v5) HV5.out rfl _ _ rfl rfl rfl (RT.out _ HB5.out) (by rw [List.length_append, List.length_take, List.length_singleton]; omega) HB5.out.size ?_
                                      intro v6 w6 ho6 hg6
                                      have HV6 := Lib.hid ho6
                                      have HB6 : Hid (Below wq.heap.size wq w6) := Lib.hid (Below.grown_ HB5.out hg6 HB5.out.size (fun q hq => (HV5.out.lt q hq).1))
                                      have hs1 : w6.cell? ⟨b, o + k * 6 + 2, none⟩ = some (.string xp) := (World.cell?_of_block (a := ⟨b, o + k * 6 + 2, none⟩) (HB6.out.block b ob)).trans c2
                                      clear ho6 hg6
                                      go_wp2
                                      refine behind_ok ⟨hs1, ?_⟩
                                      clear hs1
                                      refine goes_call (i := 16) rfl (by kernel_rfl) ?_
                                      go_wp2
                                      have hs1 : w6.cell? ⟨b, o + k * 6 + 2, none⟩ = some (.string xp) := (World.cell?_of_block (a := ⟨b, o + k * 6 + 2, none⟩) (HB6.out.block b ob)).trans c2
                                      refine behind_ok ⟨hs1, ?_⟩
                                      refine goes_done (by kernel_rfl) ?_
                                      go_wp2
                                      have hfin : W.take j ++ [xp.data.toList] ++ W.drop j = insP W xp.data.toList := by unfold insP; rw [HE.out, List.append_assoc]; rfl
                                      have hbw := Below.step2 HB6.out HB.out
                                      refine ⟨⟨k + 1, insP W xp.data.toList, by omega, by go_num, Lib.hid (HS.out.trans HI.out), ?_, hbw⟩, by simp [intOf]; omega⟩
                                      have := own_base HV6.out HB.out.size
                                      rwa [hfin] at this
                                  · go_wp2
                                    obtain ⟨w1, hnew⟩ : ∃ x, x = w0.alloc (.cells #[.string xp] 9) := ⟨_, rfl⟩
                                    rw [← hnew]
                                    have HPw1 : Hid (Bk w1 w0.heap.size 9 #[.string xp]) := Lib.hid (by rw [hnew]; exact Bk.at_ rfl)
                                    have HNw1 : Hid (Below w0.heap.size w0 w1) := Lib.hid (by rw [hnew]; exact (Below.refl _ _).alloc (Nat.le_refl _) _)
                                    have HBw1 : Hid (Below wq.heap.size wq w1) := Lib.hid (Below.step2 HNw1.out HB0.out)
                                    have hs1 : w1.cell? ⟨b, o + k * 6 + 2, none⟩ = some (.string xp) := (World.cell?_of_block (a := ⟨b, o + k * 6 + 2, none⟩) (HBw1.out.block b ob)).trans c2
                                    clear hnew
                                    refine behind_ok ⟨hs1, ?_⟩
                                    clear hs1
                                    refine goes_call (i := 0) rfl (by kernel_rfl) ?_
                                    go_wp2
                                    obtain ⟨w2, hnew⟩ : ∃ x, x = w1.alloc (.cells #[] 9) := ⟨_, rfl⟩
                                    rw [← hnew]
                                    have HRw2 : Hid (w2.ownsRow wq.heap.size 9 1 (.slice (some ⟨w1.heap.size, 0, none⟩) 0 0) 0 []) := Lib.hid (by rw [hnew]; exact World.ownsRow_made _ #[] 0 HBw1.out.size (by unfold maxLen; omega) rfl)
                                    have HMw2 : Hid (Below w1.heap.size w1 w2) := Lib.hid (by rw [hnew]; exact (Below.refl _ _).alloc (Nat.le_refl _) _)
                                    have HBw2 : Hid (Below wq.heap.size wq w2) := Lib.hid (Below.step2 HMw2.out HBw1.out)
                                    have HLw2 : Hid (w1.heap.size < w2.heap.size) := Lib.hid (by rw [hnew]; simp)
                                    have hs1 : w2.cell? ⟨b, o + k * 6 + 2, none⟩ = some (.string xp) := (World.cell?_of_block (a := ⟨b, o + k * 6 + 2, none⟩) (HBw2.out.block b ob)).trans c2
                                    clear hnew
                                    have HPw2 := Lib.hid (HPw1.out.below (show Below w1.heap.size w1 w2 from HMw2.out) HPw1.out.lt)
                                    refine behind_ok ⟨hs1, ?_⟩
                                    clear hs1
                                    refine goes_call (i := 4) rfl (by kernel_rfl) ?_
                                    refine app_txs (W := []) (base := wq.heap.size) (vw := .slice (some ⟨w1.heap.size, 0, none⟩) 0 0) HRw2.out rfl _ _ rfl rfl rfl (RH.out _ HBw2.out) (by simp; omega) HBw2.out.size ?_
                                    intro v1 w3 ho1 hg1
                                    have HVw3 : Hid (w3.ownsRow wq.heap.size 9 1 v1 (W.take j).length (Ss (W.take j))) := Lib.hid (by simpa using ho1)
                                    have HGw3 := Lib.hid hg1
                                    have HBw3 : Hid (Below wq.heap.size wq w3) := Lib.hid (Below.grown_ HBw2.out hg1 HBw2.out.size (fun q hq => (HRw2.out.lt q hq).1))
                                    have hs1 : w3.cell? ⟨b, o + k * 6 + 2, none⟩ = some (.string xp) := (World.cell?_of_block (a := ⟨b, o + k * 6 + 2, none⟩) (HBw3.out.block b ob)).trans c2
                                    clear ho1 hg1
                                    go_wp2
                                    have HPw3 : Hid (Bk w3 w0.heap.size 9 #[.string xp]) := Lib.hid ((HGw3.out.block _ HPw2.out.lt (by simp [Value.ownBlock]; have := HPw1.out.lt; omega)).trans HPw2.out)
                                    have F1 := HVw3
                                    refine behind_ok ⟨hs1, ?_⟩
                                    clear hs1
                                    refine goes_call (i := 11) rfl (by kernel_rfl) ?_
                                    refine app_s (W := W.take j) (base := wq.heap.size) (vw := v1) F1.out rfl _ _ rfl rfl xp.data.toList w0.heap.size rfl HPw3.out (by rw [List.length_take]; omega) HBw3.out.size ?_
                                    intro v5 w5 ho5 hg5
                                    have HV5 := Lib.hid ho5
                                    have HB5 : Hid (Below wq.heap.size wq w5) := Lib.hid (Below.grown_ HBw3.out hg5 HBw3.out.size (fun q hq => (F1.out.lt q hq).1))
                                    have hs1 : w5.cell? ⟨b, o + k * 6 + 2, none⟩ = some (.string xp) := (World.cell?_of_block (a := ⟨b, o + k * 6 + 2, none⟩) (HB5.out.block b ob)).trans c2
                                    clear ho5 hg5
                                    go_wp2
                                    refine behind_ok ⟨hs1, ?_⟩
                                    clear hs1
                                    refine goes_call (i := 15) rfl (by kernel_rfl) ?_
                                    refine app_txs (W := W.take j ++ [xp.data.toList]) (base := wq.heap.size) (vw := v5) HV5.out rfl _ _ rfl rfl rfl (RT.out _ HB5.out) (by rw [List.length_append, List.length_take, List.length_singleton]; omega) HB5.out.size ?_
                                    intro v6 w6 ho6 hg6
                                    have HV6 := Lib.hid ho6
                                    have HB6 : Hid (Below wq.heap.size wq w6) := Lib.hid (Below.grown_ HB5.out hg6 HB5.out.size (fun q hq => (HV5.out.lt q hq).1))
                                    have hs1 : w6.cell? ⟨b, o + k * 6 + 2, none⟩ = some (.string xp) := (World.cell?_of_block (a := ⟨b, o + k * 6 + 2, none⟩) (HB6.out.block b ob)).trans c2
                                    clear ho6 hg6
                                    go_wp2
                                    refine behind_ok ⟨hs1, ?_⟩
                                    clear hs1
                                    refine goes_call (i := 16) rfl (by kernel_rfl) ?_
                                    go_wp2
                                    have hs1 : w6.cell? ⟨b, o + k * 6 + 2, none⟩ = some (.string xp) := (World.cell?_of_block (a := ⟨b, o + k * 6 + 2, none⟩) (HB6.out.block b ob)).trans c2
                                    refine behind_ok ⟨hs1, ?_⟩
                                    refine goes_done (by kernel_rfl) ?_
                                    go_wp2
                                    have hfin : W.take j ++ [xp.data.toList] ++ W.drop j = insP W xp.data.toList := by unfold insP; rw [HE.out, List.append_assoc]; rfl
                                    have hbw := Below.step2 HB6.out HB.out
                                    refine ⟨⟨k + 1, insP W xp.data.toList, by omega, by go_num, Lib.hid (HS.out.trans HI.out), ?_, hbw⟩, by simp [intOf]; omega⟩
                                    have := own_base HV6.out HB.out.size
                                    rwa [hfin] at this)
        · have hmm : xp.data.toList ∈ W := by simpa using hm
          have HI : Hid (stepR W xp.data.toList = W) := Lib.hid (by unfold stepR; rw [if_pos (.inr hmm)])
          clear hpe hne hmm hm hv
          (
                  go_wp2_with (go_at_call 23; with_reducible refine (HT.out _ (by have hb0 := HB.out; exact (by repeat (first | with_reducible exact Below.refl _ _ | with_reducible assumption | with_reducible refine Below.drew ?_ | with_reducible refine Below.drewN ?_ _ | with_reducible refine Below.alloc2 ?_ _ | with_reducible refine Below.alloc ?_ (by first | omega | (simp <;> omega)) _ | with_reducible refine Below.setCell ?_ (by first | omega | (simp <;> omega)) _ | with_reducible refine Below.step2 (by with_reducible assumption) ?_ | with_reducible refine Below.step (by with_reducible assumption) ?_ (by first | omega | (simp <;> omega)))))).mono ?_; rintro e w' ⟨rfl, rfl⟩)
                  exact ⟨⟨k + 1, W, by omega, by go_num, Lib.hid (HS.out.trans HI.out), HO.out, HB.out⟩, by simp [intOf]; omega⟩)
      · have HI : Hid (stepR W xp.data.toList = W) := Lib.hid (by unfold stepR; rw [if_pos (.inl (hpe.2 hv))])
        have hv2 : xp.toList.isEmpty = true := by simpa using hv
        clear hpe hm hv
        (
                go_wp2_with (go_at_call 23; with_reducible refine (HT.out _ (by have hb0 := HB.out; exact (by repeat (first | with_reducible exact Below.refl _ _ | with_reducible assumption | with_reducible refine Below.drew ?_ | with_reducible refine Below.drewN ?_ _ | with_reducible refine Below.alloc2 ?_ _ | with_reducible refine Below.alloc ?_ (by first | omega | (simp <;> omega)) _ | with_reducible refine Below.setCell ?_ (by first | omega | (simp <;> omega)) _ | with_reducible refine Below.step2 (by with_reducible assumption) ?_ | with_reducible refine Below.step (by with_reducible assumption) ?_ (by first | omega | (simp <;> omega)))))).mono ?_; rintro e w' ⟨rfl, rfl⟩)
                exact ⟨⟨k + 1, W, by omega, by go_num, Lib.hid (HS.out.trans HI.out), HO.out, HB.out⟩, by simp [intOf]; omega⟩)
    · have hW : platsR l = W := by
        rw [← HV.out, List.take_of_length_le (by rw [HLEN.out]; omega)]
      have HW := Lib.hid hW
      clear hb ho hW
      go_wp2
      go_ret
      refine ⟨HB.out, _, rfl, ?_⟩
      rw [HW.out]
      exact HO.out

end Go.Proofs.Ytgjjjnofdjhikaa
