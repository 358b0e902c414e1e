/- Chapter 9, walks: tag, againstOf. -/
import Derived.Test.YtgjjjnofdjhikaaStatG9
import Derived.Test.YtgjjjnofdjhikaaRngB9
namespace Go.Proofs.Ytgjjjnofdjhikaa
open Go.RowKit Go.Maps

/-- The tag, by the reasons. -/
def tagB (b0 b1 b2 b3 b4 : Bool) : Int := if b0 || (b1 || (b2 || b3)) then 0 else if b4 then 1 else 2
set_option maxHeartbeats 4000000 in
theorem tag_any (b0 b1 b2 b3 b4 : Bool) (w : World) :
    Calls Try.prog 49 #[.agg #[.bool b0, .bool b1, .bool b2, .bool b3, .bool b4]] w fun e w' => Below w.heap.size w w' ∧ e = .returned (.int .i64 (tagB b0 b1 b2 b3 b4)) := by
  cases b0
  · cases b1
    · cases b2
      · cases b3
        · cases b4
          · go_enter Try.func49, Try.ntmps49
            go_wp2
            go_ret
            exact ⟨(by repeat (first | with_reducible exact Below.refl _ _ | with_reducible assumption | with_reducible refine Below.drew ?_ | with_reducible refine Below.drewN ?_ _ | with_reducible refine Below.alloc2 ?_ _ | with_reducible refine Below.alloc ?_ (by first | omega | (simp <;> omega)) _ | with_reducible refine Below.setCell ?_ (by first | omega | (simp <;> omega)) _ | with_reducible refine Below.step2 (by with_reducible assumption) ?_ | with_reducible refine Below.step (by with_reducible assumption) ?_ (by first | omega | (simp <;> omega)))), rfl⟩
          · go_enter Try.func49, Try.ntmps49
            go_wp2
            go_ret
            exact ⟨(by repeat (first | with_reducible exact Below.refl _ _ | with_reducible assumption | with_reducible refine Below.drew ?_ | with_reducible refine Below.drewN ?_ _ | with_reducible refine Below.alloc2 ?_ _ | with_reducible refine Below.alloc ?_ (by first | omega | (simp <;> omega)) _ | with_reducible refine Below.setCell ?_ (by first | omega | (simp <;> omega)) _ | with_reducible refine Below.step2 (by with_reducible assumption) ?_ | with_reducible refine Below.step (by with_reducible assumption) ?_ (by first | omega | (simp <;> omega)))), rfl⟩
        · go_enter Try.func49, Try.ntmps49
          go_wp2
          go_ret
          exact ⟨(by repeat (first | with_reducible exact Below.refl _ _ | with_reducible assumption | with_reducible refine Below.drew ?_ | with_reducible refine Below.drewN ?_ _ | with_reducible refine Below.alloc2 ?_ _ | with_reducible refine Below.alloc ?_ (by first | omega | (simp <;> omega)) _ | with_reducible refine Below.setCell ?_ (by first | omega | (simp <;> omega)) _ | with_reducible refine Below.step2 (by with_reducible assumption) ?_ | with_reducible refine Below.step (by with_reducible assumption) ?_ (by first | omega | (simp <;> omega)))), rfl⟩
      · go_enter Try.func49, Try.ntmps49
        go_wp2
        go_ret
        exact ⟨(by repeat (first | with_reducible exact Below.refl _ _ | with_reducible assumption | with_reducible refine Below.drew ?_ | with_reducible refine Below.drewN ?_ _ | with_reducible refine Below.alloc2 ?_ _ | with_reducible refine Below.alloc ?_ (by first | omega | (simp <;> omega)) _ | with_reducible refine Below.setCell ?_ (by first | omega | (simp <;> omega)) _ | with_reducible refine Below.step2 (by with_reducible assumption) ?_ | with_reducible refine Below.step (by with_reducible assumption) ?_ (by first | omega | (simp <;> omega)))), rfl⟩
    · go_enter Try.func49, Try.ntmps49
      go_wp2
      go_ret
      exact ⟨(by repeat (first | with_reducible exact Below.refl _ _ | with_reducible assumption | with_reducible refine Below.drew ?_ | with_reducible refine Below.drewN ?_ _ | with_reducible refine Below.alloc2 ?_ _ | with_reducible refine Below.alloc ?_ (by first | omega | (simp <;> omega)) _ | with_reducible refine Below.setCell ?_ (by first | omega | (simp <;> omega)) _ | with_reducible refine Below.step2 (by with_reducible assumption) ?_ | with_reducible refine Below.step (by with_reducible assumption) ?_ (by first | omega | (simp <;> omega)))), rfl⟩
  · go_enter Try.func49, Try.ntmps49
    go_wp2
    go_ret
    exact ⟨(by repeat (first | with_reducible exact Below.refl _ _ | with_reducible assumption | with_reducible refine Below.drew ?_ | with_reducible refine Below.drewN ?_ _ | with_reducible refine Below.alloc2 ?_ _ | with_reducible refine Below.alloc ?_ (by first | omega | (simp <;> omega)) _ | with_reducible refine Below.setCell ?_ (by first | omega | (simp <;> omega)) _ | with_reducible refine Below.step2 (by with_reducible assumption) ?_ | with_reducible refine Below.step (by with_reducible assumption) ?_ (by first | omega | (simp <;> omega)))), rfl⟩

/-- What the range over open defects has found, where some are still to come. -/
structure InvB (f : Df → Option Bool) (lf : Df → Bool) (g l : Bool) : Prop where
  g1 : g = true → ∃ q, dfOk q ∧ f q = some true
  l1 : l = true → ∃ q, dfOk q ∧ f q = some false
  g2 : ∀ q, dfOk q → f q = some true → lf q = true ∨ g = true
  l2 : ∀ q, dfOk q → f q = some false → lf q = true ∨ l = true
theorem InvB.start (f : Df → Option Bool) : InvB f (fun q => (f q).isSome) false false :=
  ⟨fun h => (by cases h), fun h => (by cases h), fun q _ h => .inl (by simp [h]), fun q _ h => .inl (by simp [h])⟩
theorem InvB.grave {f : Df → Option Bool} {lf : Df → Bool} {g l : Bool} (h : InvB f lf g l) {x : Df} (hx : dfOk x) (hf : f x = some true) : InvB f (fun z => lf z && !decide (z = x)) true l :=
  ⟨fun _ => ⟨x, hx, hf⟩, h.l1, fun _ _ _ => .inr rfl, fun q hq hfq => by
    have hne : q ≠ x := fun e => by rw [e, hf] at hfq; cases hfq
    rcases h.l2 q hq hfq with h1 | h1
    · exact .inl (by simp [h1, hne])
    · exact .inr h1⟩
theorem InvB.light {f : Df → Option Bool} {lf : Df → Bool} {g l : Bool} (h : InvB f lf g l) {x : Df} (hx : dfOk x) (hf : f x = some false) : InvB f (fun z => lf z && !decide (z = x)) g true :=
  ⟨h.g1, fun _ => ⟨x, hx, hf⟩, fun q hq hfq => by
    have hne : q ≠ x := fun e => by rw [e, hf] at hfq; cases hfq
    rcases h.g2 q hq hfq with h1 | h1
    · exact .inl (by simp [h1, hne])
    · exact .inr h1, fun _ _ _ => .inr rfl⟩
def OpB (f : Df → Option Bool) (b : Bool) (g : Bool) : Prop := g = true ↔ ∃ q, dfOk q ∧ f q = some b
theorem InvB.end_ {f : Df → Option Bool} {lf : Df → Bool} {g l : Bool} (h : InvB f lf g l) (hd : ∀ q, dfOk q → lf q = false) : OpB f true g ∧ OpB f false l :=
  ⟨⟨h.g1, fun ⟨q, hq, hf⟩ => (h.g2 q hq hf).resolve_left (by rw [hd q hq]; simp)⟩, ⟨h.l1, fun ⟨q, hq, hf⟩ => (h.l2 q hq hf).resolve_left (by rw [hd q hq]; simp)⟩⟩
theorem Bk.five {w : World} {g t : Nat} {a b c d e : Value} (h : Bk w g t #[a, b, c, d, e]) :
    (w.cell? ⟨g, 0, none⟩ = some a ∧ w.cell? ⟨g, 1, none⟩ = some b ∧ w.cell? ⟨g, 2, none⟩ = some c ∧ w.cell? ⟨g, 3, none⟩ = some d ∧ w.cell? ⟨g, 4, none⟩ = some e) ∧
    w.frozen? ⟨g, 0, none⟩ = false ∧ w.frozen? ⟨g, 1, none⟩ = false ∧ w.frozen? ⟨g, 2, none⟩ = false ∧ w.frozen? ⟨g, 3, none⟩ = false ∧ w.frozen? ⟨g, 4, none⟩ = false :=
  ⟨⟨by simpa using h.cell 0, by simpa using h.cell 1, by simpa using h.cell 2, by simpa using h.cell 3, by simpa using h.cell 4⟩, h.frozen 0, h.frozen 1, h.frozen 2, h.frozen 3, h.frozen 4⟩
def aB2 (s : St) (day : Int) : Bool := !s.is || decide (s.d + 7 < day)

theorem stF_d {s : St} {x : Ev} (hs : 0 ≤ s.d ∧ s.d ≤ 1000000000) (hx : 0 ≤ x.d ∧ x.d ≤ 1000000000) : 0 ≤ (stF s x).d ∧ (stF s x).d ≤ 1000000000 := by
  unfold stF
  repeat (first | exact hs | exact hx | split)
theorem fold_d : ∀ (F : List Ev) (s : St), 0 ≤ s.d ∧ s.d ≤ 1000000000 → (∀ x ∈ F, 0 ≤ x.d ∧ x.d ≤ 1000000000) → 0 ≤ (F.foldl stF s).d ∧ (F.foldl stF s).d ≤ 1000000000
  | [], _, hs, _ => hs
  | x :: F, s, hs, h => fold_d F (stF s x) (stF_d hs (h x (List.mem_cons_self ..))) fun y hy => h y (List.mem_cons_of_mem _ hy)
set_option maxRecDepth 100000 in
set_option maxHeartbeats 8000000 in
theorem againstOf_any (A : Option Addr) (n c : Nat) (l : List Ev) (p : ByteArray) (day : Int) (w : World) (h : Rws Ev.cs 6 w w.heap.size A n c l) (hn : n ≤ 1000) (hs : ∀ x ∈ l, x.p.size ≤ 30) (ho : ∀ x ∈ l, evOk x) (hd : ∀ x ∈ l, 0 ≤ x.d ∧ x.d ≤ 1000000000) :
    Calls Try.prog 48 #[.slice A n c, .string p, .int .i64 day] w fun e w' => Below w.heap.size w w' ∧ ∃ g t, OpB (opn (l.filter (ownE p day))) true g ∧ OpB (opn (l.filter (ownE p day))) false t ∧ e = .returned (.agg #[.bool (!(stOf (l.filter (ownE p day))).de), .bool (!(stOf (l.filter (ownE p day))).ho), .bool (aB2 (stOf (l.filter (ownE p day))) day), .bool g, .bool t]) := by
  have hcap := h.cap
  have hmax := h.max
  have SO : Hid (∀ W, Below w.heap.size w W → Calls Try.prog 50 #[.slice A n c, .string p, .int .i64 day] W fun e w' => Below W.heap.size W w' ∧ ∃ gm m, W.heap.size ≤ gm ∧ m ≤ 1000 ∧ e = .returned (.agg ((stOf (l.filter (ownE p day))).cs gm)) ∧ BMap w' Try.prog 92 4 dfV dfOk gm m (opn (l.filter (ownE p day)))) := Lib.hid fun W hW => statusOf_any A n c l p day W (h.below hW (Nat.le_refl _) hW.size) hn hs ho
  have hdd := fold_d (l.filter (ownE p day)) st0 (by simp [st0]) (fun x hx => hd x (List.mem_filter.1 hx).1)
  clear h hs ho hd
  generalize l.filter (ownE p day) = F at SO hdd ⊢
  change 0 ≤ (stOf F).d ∧ (stOf F).d ≤ 1000000000 at hdd
  generalize opn F = f at SO ⊢
  generalize stOf F = s at SO hdd ⊢
  obtain ⟨q0, q1, q2, q3, q4⟩ := s
  dsimp only at hdd ⊢
  unfold St.cs at SO
  dsimp only at SO
  obtain ⟨hd0, hd1⟩ := hdd
  have hw7 : IntKind.i64.wrap (q4 + 7) = q4 + 7 := IntWalk.i64_in _ (by omega)
  obtain ⟨v2, hv2⟩ : ∃ v, decide (day > q4 + 7) = v := ⟨_, rfl⟩
  cases q3
  · go_enter Try.func48, Try.ntmps48
    go_wp2_with (first | (go_at_call 50; refine (SO.out _ (by exact (by repeat (first | with_reducible exact Below.refl _ _ | with_reducible assumption | with_reducible refine Below.drew ?_ | with_reducible refine Below.drewN ?_ _ | with_reducible refine Below.alloc2 ?_ _ | with_reducible refine Below.alloc ?_ (by first | omega | (simp <;> omega)) _ | with_reducible refine Below.setCell ?_ (by first | omega | (simp <;> omega)) _ | with_reducible refine Below.step2 (by with_reducible assumption) ?_ | with_reducible refine Below.step (by with_reducible assumption) ?_ (by first | omega | (simp <;> omega)))))).mono ?_; rintro e w1 ⟨hb1, gm, m, hgm, hm, rfl, hmap⟩; have HM1 := Lib.hid hmap; have HZ1 : Hid (Bk w1 w.heap.size 85 #[.bool false, .bool false, .bool false, .bool false, .bool false]) := Lib.hid ((Bk.at_ rfl).below hb1 (by simp)); have HB1 : Hid (Below w.heap.size w w1) := Lib.hid (((Below.refl _ w).alloc (Nat.le_refl _) _).trans (hb1.mono (by simp))); have ow1 := hb1.size; have olm := hmap.lt; (try simp at ow1 hgm); clear hmap hb1) | (at_range; refine wpList_range_b rfl _ rfl (df_keys w) Try.underlying80 rfl ((HM1.out.alloc _).alloc _) (r := w1.heap.size + 1 + 1) (by simp) ?_; intro w2 cnt hrg hg2 hs2; have HR2 := Lib.hid hrg; have HA2 : Hid (Bk w2 (w1.heap.size + 1) 85 _) := Lib.hid ((hg2.block _ (by simp) (by simp)).trans (Bk.at_ (by simp))); have HZ2 : Hid (Bk w2 w.heap.size 85 #[.bool false, .bool false, .bool false, .bool false, .bool false]) := Lib.hid ((hg2.block _ (by simp; omega) (by simp)).trans ((HZ1.out.alloc _).alloc _)); have HB2 : Hid (Below w.heap.size w w2) := Lib.hid (Below.grown_ ((HB1.out.alloc HB1.out.size _).alloc (by simp; omega) _) hg2 (by simp; omega) (fun q hq => by cases hq)); clear hrg hg2))
    go_frame
    go_loopw [10] (fun _ wr => ∃ (cnt : Nat) (lf : Df → Bool) (g t : Bool), Hid (BRng wr Try.prog 92 4 dfV dfOk gm (w1.heap.size + 1 + 1) m f lf cnt) ∧ Hid (Bk wr (w1.heap.size + 1) 85 #[.bool (!q1), .bool (!q2), .bool true, .bool g, .bool t]) ∧ Hid (InvB f lf g t) ∧ Hid (Bk wr w.heap.size 85 #[.bool false, .bool false, .bool false, .bool false, .bool false]) ∧ Hid (Below w.heap.size w wr)) (fun _ wr => wr.rangeLeft gm (w1.heap.size + 1 + 1))
    case atStart => exact ⟨cnt, _, false, false, HR2, HA2, Lib.hid (InvB.start f), HZ2, HB2⟩
    case round =>
      obtain ⟨cnt, lf, g, t, HR, HA, HI, HZ, HB⟩ := hrel
      have orr := HR.out.lt.1
      have oaa := HA.out.lt
      go_wp2_with (at_next; refine wpList_next_b rfl _ rfl (df_keys w) Try.underlying4 rfl HR.out ?_ ?_; rotate_left; intro x cc w3 cnt3 hx hlx hfx hrg3 hlt hg3 hs3 hen; have HA3 : Hid (Bk w3 (w1.heap.size + 1) 85 _) := Lib.hid ((hg3.block _ oaa (by simp)).trans HA.out); have HZ3 : Hid (Bk w3 w.heap.size 85 #[.bool false, .bool false, .bool false, .bool false, .bool false]) := Lib.hid ((hg3.block _ HZ.out.lt (by simp; omega)).trans HZ.out); have HB3 : Hid (Below w.heap.size w w3) := Lib.hid (Below.grown_ HB.out hg3 HB.out.size (fun q hq => by cases hq; omega)); have HR3 := Lib.hid hrg3; obtain ⟨⟨z0, z1, z2, z3, z4⟩, f0, f1, f2, f3, f4⟩ := HA3.out.five; have HM3 := Lib.hid (And.intro hrg3.left_eq hlt); have HI3 : Hid (InvB f (fun z => lf z && !decide (z = x)) (cc || g) (!cc || t)) := Lib.hid (by cases cc; exact HI.out.light hx hfx; exact HI.out.grave hx hfx); clear hrg3 hg3 hx hlx hfx hlt; cases cc; rotate_left; rotate_left; intro hdn; have HE := Lib.hid (HI.out.end_ hdn); clear hdn; obtain ⟨⟨z0, z1, z2, z3, z4⟩, -⟩ := HA.out.five; obtain ⟨⟨y0, y1, y2, y3, y4⟩, f0, f1, f2, f3, f4⟩ := HZ.out.five; rotate_left)
      · go_roundw
        case rel => exact ⟨cnt3, _, g, true, Lib.hid (HR3.out.kept (grown_set _ _ _ _) (by simp; omega) (by simp)), Lib.hid (Bk.cast (HA3.out.set_ 4 (.bool true)) (by simp)), HI3, Lib.hid (HZ3.out.other (by simp; omega) _), Lib.hid (HB3.out.setCell (by simp; omega) _)⟩
        case measure => rw [(HR3.out.kept (grown_set w3 (w1.heap.size + 1) 4 (.bool true)) (by simp; omega) (by simp)).left_eq, HR.out.left_eq]; exact HM3.out.2
      · go_roundw
        case rel => exact ⟨cnt3, _, true, t, Lib.hid (HR3.out.kept (grown_set _ _ _ _) (by simp; omega) (by simp)), Lib.hid (Bk.cast (HA3.out.set_ 3 (.bool true)) (by simp)), HI3, Lib.hid (HZ3.out.other (by simp; omega) _), Lib.hid (HB3.out.setCell (by simp; omega) _)⟩
        case measure => rw [(HR3.out.kept (grown_set w3 (w1.heap.size + 1) 3 (.bool true)) (by simp; omega) (by simp)).left_eq, HR.out.left_eq]; exact HM3.out.2
      · refine bodyPost_ret (v := .agg #[.bool (!q1), .bool (!q2), .bool true, .bool g, .bool t]) (by simp [results, Try.results48, go_sem, y0, y1, y2, y3, y4]) rfl ⟨?_, g, t, HE.out.1, HE.out.2, by simp [aB2]⟩
        (repeat (with_reducible refine Below.setCell ?_ (by simp) _))
        exact HB.out
  · go_enter Try.func48, Try.ntmps48
    go_wp2_with (first | (go_at_call 50; refine (SO.out _ (by exact (by repeat (first | with_reducible exact Below.refl _ _ | with_reducible assumption | with_reducible refine Below.drew ?_ | with_reducible refine Below.drewN ?_ _ | with_reducible refine Below.alloc2 ?_ _ | with_reducible refine Below.alloc ?_ (by first | omega | (simp <;> omega)) _ | with_reducible refine Below.setCell ?_ (by first | omega | (simp <;> omega)) _ | with_reducible refine Below.step2 (by with_reducible assumption) ?_ | with_reducible refine Below.step (by with_reducible assumption) ?_ (by first | omega | (simp <;> omega)))))).mono ?_; rintro e w1 ⟨hb1, gm, m, hgm, hm, rfl, hmap⟩; have HM1 := Lib.hid hmap; have HZ1 : Hid (Bk w1 w.heap.size 85 #[.bool false, .bool false, .bool false, .bool false, .bool false]) := Lib.hid ((Bk.at_ rfl).below hb1 (by simp)); have HB1 : Hid (Below w.heap.size w w1) := Lib.hid (((Below.refl _ w).alloc (Nat.le_refl _) _).trans (hb1.mono (by simp))); have ow1 := hb1.size; have olm := hmap.lt; (try simp at ow1 hgm); clear hmap hb1) | (at_range; refine wpList_range_b rfl _ rfl (df_keys w) Try.underlying80 rfl ((HM1.out.alloc _).alloc _) (r := w1.heap.size + 1 + 1) (by simp) ?_; intro w2 cnt hrg hg2 hs2; have HR2 := Lib.hid hrg; have HA2 : Hid (Bk w2 (w1.heap.size + 1) 85 _) := Lib.hid ((hg2.block _ (by simp) (by simp)).trans (Bk.at_ (by simp))); have HZ2 : Hid (Bk w2 w.heap.size 85 #[.bool false, .bool false, .bool false, .bool false, .bool false]) := Lib.hid ((hg2.block _ (by simp; omega) (by simp)).trans ((HZ1.out.alloc _).alloc _)); have HB2 : Hid (Below w.heap.size w w2) := Lib.hid (Below.grown_ ((HB1.out.alloc HB1.out.size _).alloc (by simp; omega) _) hg2 (by simp; omega) (fun q hq => by cases hq)); clear hrg hg2))
    go_frame
    go_loopw [10] (fun _ wr => ∃ (cnt : Nat) (lf : Df → Bool) (g t : Bool), Hid (BRng wr Try.prog 92 4 dfV dfOk gm (w1.heap.size + 1 + 1) m f lf cnt) ∧ Hid (Bk wr (w1.heap.size + 1) 85 #[.bool (!q1), .bool (!q2), .bool v2, .bool g, .bool t]) ∧ Hid (InvB f lf g t) ∧ Hid (Bk wr w.heap.size 85 #[.bool false, .bool false, .bool false, .bool false, .bool false]) ∧ Hid (Below w.heap.size w wr)) (fun _ wr => wr.rangeLeft gm (w1.heap.size + 1 + 1))
    case atStart => exact ⟨cnt, _, false, false, HR2, HA2, Lib.hid (InvB.start f), HZ2, HB2⟩
    case round =>
      obtain ⟨cnt, lf, g, t, HR, HA, HI, HZ, HB⟩ := hrel
      have orr := HR.out.lt.1
      have oaa := HA.out.lt
      go_wp2_with (at_next; refine wpList_next_b rfl _ rfl (df_keys w) Try.underlying4 rfl HR.out ?_ ?_; rotate_left; intro x cc w3 cnt3 hx hlx hfx hrg3 hlt hg3 hs3 hen; have HA3 : Hid (Bk w3 (w1.heap.size + 1) 85 _) := Lib.hid ((hg3.block _ oaa (by simp)).trans HA.out); have HZ3 : Hid (Bk w3 w.heap.size 85 #[.bool false, .bool false, .bool false, .bool false, .bool false]) := Lib.hid ((hg3.block _ HZ.out.lt (by simp; omega)).trans HZ.out); have HB3 : Hid (Below w.heap.size w w3) := Lib.hid (Below.grown_ HB.out hg3 HB.out.size (fun q hq => by cases hq; omega)); have HR3 := Lib.hid hrg3; obtain ⟨⟨z0, z1, z2, z3, z4⟩, f0, f1, f2, f3, f4⟩ := HA3.out.five; have HM3 := Lib.hid (And.intro hrg3.left_eq hlt); have HI3 : Hid (InvB f (fun z => lf z && !decide (z = x)) (cc || g) (!cc || t)) := Lib.hid (by cases cc; exact HI.out.light hx hfx; exact HI.out.grave hx hfx); clear hrg3 hg3 hx hlx hfx hlt; cases cc; rotate_left; rotate_left; intro hdn; have HE := Lib.hid (HI.out.end_ hdn); clear hdn; obtain ⟨⟨z0, z1, z2, z3, z4⟩, -⟩ := HA.out.five; obtain ⟨⟨y0, y1, y2, y3, y4⟩, f0, f1, f2, f3, f4⟩ := HZ.out.five; rotate_left)
      · go_roundw
        case rel => exact ⟨cnt3, _, g, true, Lib.hid (HR3.out.kept (grown_set _ _ _ _) (by simp; omega) (by simp)), Lib.hid (Bk.cast (HA3.out.set_ 4 (.bool true)) (by simp)), HI3, Lib.hid (HZ3.out.other (by simp; omega) _), Lib.hid (HB3.out.setCell (by simp; omega) _)⟩
        case measure => rw [(HR3.out.kept (grown_set w3 (w1.heap.size + 1) 4 (.bool true)) (by simp; omega) (by simp)).left_eq, HR.out.left_eq]; exact HM3.out.2
      · go_roundw
        case rel => exact ⟨cnt3, _, true, t, Lib.hid (HR3.out.kept (grown_set _ _ _ _) (by simp; omega) (by simp)), Lib.hid (Bk.cast (HA3.out.set_ 3 (.bool true)) (by simp)), HI3, Lib.hid (HZ3.out.other (by simp; omega) _), Lib.hid (HB3.out.setCell (by simp; omega) _)⟩
        case measure => rw [(HR3.out.kept (grown_set w3 (w1.heap.size + 1) 3 (.bool true)) (by simp; omega) (by simp)).left_eq, HR.out.left_eq]; exact HM3.out.2
      · refine bodyPost_ret (v := .agg #[.bool (!q1), .bool (!q2), .bool v2, .bool g, .bool t]) (by simp [results, Try.results48, go_sem, y0, y1, y2, y3, y4]) rfl ⟨?_, g, t, HE.out.1, HE.out.2, by simp [aB2, ← hv2]⟩
        (repeat (with_reducible refine Below.setCell ?_ (by simp) _))
        exact HB.out

end Go.Proofs.Ytgjjjnofdjhikaa
