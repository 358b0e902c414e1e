/- Several texts in one. -/
import Derived.Test.YtgjjjnofdjhikaaStatG9
import Derived.Test.YtgjjjnofdjhikaaRefD9
import Derived.Test.YtgjjjnofdjhikaaRngB9
import Derived.Test.YtgjjjnofdjhikaaAdd9
/- Chapter 9: what the program's status tells and what the reference's last places tell: the same. No walk. -/
namespace Go.Proofs.Ytgjjjnofdjhikaa
open Go.RowKit Go.Maps

def ownP (p : ByteArray) (x : Ev) : Bool := eqS x.p p || decide (x.k = 3)
theorem own_two (l : List Ev) (p : ByteArray) (day : Int) : l.filter (ownE p day) = (l.filter (upF day)).filter (ownP p) := by
  rw [List.filter_filter]
  congr 1
  funext x
  show (decide (x.d ≤ day) && (eqS x.p p || decide (x.k = 3))) = ((eqS x.p p || decide (x.k = 3)) && decide (x.d ≤ day))
  rw [Bool.and_comm]
/-- The status of the first events. -/
def stT (U : List Ev) (p : ByteArray) (k : Nat) : St := stOf ((U.take k).filter (ownP p))
theorem stT_zero (U : List Ev) (p : ByteArray) : stT U p 0 = st0 := rfl
theorem stT_step {U : List Ev} {p : ByteArray} {k : Nat} {x : Ev} (hx : U[k]? = some x) : stT U p (k + 1) = if ownP p x then stF (stT U p k) x else stT U p k := by
  unfold stT
  rw [take_step hx, List.filter_append]
  by_cases h : ownP p x = true
  · simp [h, stOf]
  · simp [h, stOf]
theorem psAt_at {U : List Ev} {k : Nat} {x : Ev} (hx : U[k]? = some x) : psAt U (k : Int) = x.ps := by
  unfold psAt
  rw [Int.toNat_natCast, hx]
/-- What the status is, by the reference's places. -/
structure Tells (U : List Ev) (p : ByteArray) (k : Nat) (s : St) : Prop where
  hd : s.hd = decide (0 ≤ lastTo U 0 p k)
  de : s.de = (decide (0 ≤ lastTo U 0 p k) && decide (lastTo U 6 p k ≤ lastTo U 0 p k))
  ho : s.ho = (decide (0 ≤ lastTo U 0 p k) && (decide (lastTo U 0 p k ≤ lastTo U 1 p k) && psAt U (lastTo U 1 p k)))
  is : s.is = decide (0 ≤ frTo U p k)
  d : 0 ≤ frTo U p k → ∃ x, U[(frTo U p k).toNat]? = some x ∧ x.d = s.d
theorem isK_own {kd : Int} {p : ByteArray} {x : Ev} (h : ownP p x = false) : isK kd p x = false := by
  unfold ownP at h
  rw [Bool.or_eq_false_iff] at h
  simp [isK, h.1]
theorem frStep_not {p : ByteArray} {x : Ev} {k : Nat} {z : Int} (h : ownP p x = false) : frStep p k x z = z := by
  unfold ownP at h
  rw [Bool.or_eq_false_iff] at h
  simp [frStep, isI, h.1, h.2]
theorem tells (U : List Ev) (p : ByteArray) (h3 : ∀ x ∈ U, x.k = 3 → eqS x.p p = false) : ∀ k, k ≤ U.length → Tells U p k (stT U p k)
  | 0, _ => ⟨rfl, rfl, rfl, rfl, fun h => by simp [frTo] at h⟩
  | k + 1, hk => by
    obtain ⟨i1, i2, i3, i4, i5⟩ := tells U p h3 k (by omega)
    have hx : U[k]? = some (U[k]'(by omega)) := List.getElem?_eq_getElem (by omega)
    have hm : U[k]'(by omega) ∈ U := List.getElem_mem _
    generalize U[k]'(by omega) = x at hx hm
    have l0 := lastTo_lt U 0 p k
    have l1 := lastTo_lt U 1 p k
    have l6 := lastTo_lt U 6 p k
    have lf := frTo_lt U p k
    have hps := psAt_at hx
    rw [stT_step hx]
    have s0 := fun b hb => lastTo_step (kd := 0) (p := p) hx b hb
    have s1 := fun b hb => lastTo_step (kd := 1) (p := p) hx b hb
    have s6 := fun b hb => lastTo_step (kd := 6) (p := p) hx b hb
    have sf := frTo_step (p := p) hx
    by_cases ho : ownP p x = true
    · rw [if_pos ho]
      generalize stT U p k = s at *
      have hq : eqS x.p p = true ∨ x.k = 3 := by
        unfold ownP at ho
        simpa using ho
      by_cases k3 : x.k = 3
      · have hp := h3 x hm k3
        refine ⟨?_, ?_, ?_, ?_, ?_⟩ <;> (try rw [s0 false (by simp [isK, hp])]) <;> (try rw [s1 false (by simp [isK, hp])]) <;> (try rw [s6 false (by simp [isK, hp])]) <;> (try rw [sf]) <;> simp [stF, k3, frStep, isI, hp, i1, i2, i3]
      · have hp : eqS x.p p = true := hq.resolve_right k3
        by_cases k0 : x.k = 0
        · refine ⟨?_, ?_, ?_, ?_, ?_⟩
          · rw [s0 true (by simp [isK, hp, k0])]
            simp [stF, k0]
          · rw [s0 true (by simp [isK, hp, k0]), s6 false (by simp [isK, hp, k0])]
            have e : decide (lastTo U 6 p k ≤ (k : Int)) = true := decide_eq_true (by omega)
            simp [stF, k0, e]
          · rw [s0 true (by simp [isK, hp, k0]), s1 false (by simp [isK, hp, k0])]
            have e : decide ((k : Int) ≤ lastTo U 1 p k) = false := decide_eq_false (by omega)
            simp [stF, k0, e]
          · rw [sf]
            simp [stF, k0, frStep, isI, i4]
          · rw [sf]
            simpa [stF, k0, frStep, isI] using i5
        by_cases k1 : x.k = 1
        · refine ⟨?_, ?_, ?_, ?_, ?_⟩
          · rw [s0 false (by simp [isK, hp, k0])]
            simp [stF, k1, i1]
          · rw [s0 false (by simp [isK, hp, k0]), s6 false (by simp [isK, hp, k1])]
            simp [stF, k1, i2]
          · rw [s0 false (by simp [isK, hp, k0]), s1 true (by simp [isK, hp, k1])]
            have e : decide (lastTo U 0 p k ≤ (k : Int)) = true := decide_eq_true (by omega)
            simp [stF, k1, i1, e, hps]
          · rw [sf]
            cases hpv : x.ps <;> simp [stF, k1, frStep, isI, hp, hpv]
          · rw [sf]
            cases hpv : x.ps <;> simp [stF, k1, frStep, isI, hp, hpv, hx]
        by_cases k2 : x.k = 2
        · refine ⟨?_, ?_, ?_, ?_, ?_⟩
          · rw [s0 false (by simp [isK, hp, k0])]
            simp [stF, k2, i1]
          · rw [s0 false (by simp [isK, hp, k0]), s6 false (by simp [isK, hp, k2])]
            simp [stF, k2, i2]
          · rw [s0 false (by simp [isK, hp, k0]), s1 false (by simp [isK, hp, k1])]
            simp [stF, k2, i3]
          · rw [sf]
            cases hpv : x.ps <;> simp [stF, k2, frStep, isI, hp, hpv]
          · rw [sf]
            cases hpv : x.ps <;> simp [stF, k2, frStep, isI, hp, hpv, hx]
        have hfr : frStep p k x (frTo U p k) = frTo U p k := by simp [frStep, isI, k1, k2, k3]
        by_cases k6 : x.k = 6
        · refine ⟨?_, ?_, ?_, ?_, ?_⟩
          · rw [s0 false (by simp [isK, hp, k0])]
            simp [stF, k6, i1]
          · rw [s0 false (by simp [isK, hp, k0]), s6 true (by simp [isK, hp, k6])]
            have e : decide ((k : Int) ≤ lastTo U 0 p k) = false := decide_eq_false (by omega)
            simp [stF, k6, e]
          · rw [s0 false (by simp [isK, hp, k0]), s1 false (by simp [isK, hp, k1])]
            simp [stF, k6, i3]
          · rw [sf, hfr]
            simp [stF, k6, i4]
          · rw [sf, hfr]
            simpa [stF, k6] using i5
        · have e : stF s x = s := by simp [stF, k0, k1, k2, k3, k6]
          rw [e]
          refine ⟨?_, ?_, ?_, ?_, ?_⟩
          · rw [s0 false (by simp [isK, hp, k0]), i1]
            simp
          · rw [s0 false (by simp [isK, hp, k0]), s6 false (by simp [isK, hp, k6]), i2]
            simp
          · rw [s0 false (by simp [isK, hp, k0]), s1 false (by simp [isK, hp, k1]), i3]
            simp
          · rw [sf, hfr, i4]
          · rw [sf, hfr]
            exact i5
    · have ho : ownP p x = false := by simpa using ho
      rw [if_neg (by simp [ho])]
      have hfr := frStep_not (k := k) (z := frTo U p k) ho
      refine ⟨?_, ?_, ?_, ?_, ?_⟩
      · rw [s0 false (isK_own ho), i1]
        simp
      · rw [s0 false (isK_own ho), s6 false (isK_own ho), i2]
        simp
      · rw [s0 false (isK_own ho), s1 false (isK_own ho), i3]
        simp
      · rw [sf, hfr, i4]
      · rw [sf, hfr]
        exact i5

end Go.Proofs.Ytgjjjnofdjhikaa

/- Chapter 9, walks: tag, againstOf. -/
namespace Go.Proofs.Ytgjjjnofdjhikaa
open Go.RowKit Go.Maps

/-- The tag, by the reasons. -/
def tagB (b0 b1 b2 b3 b4 : Bool) : Int := if b0 || (b1 || (b2 || b3)) then 0 else if b4 then 1 else 2
set_option maxHeartbeats 4000000 in
theorem tag_any (b0 b1 b2 b3 b4 : Bool) (w : World) :
    Calls Try.prog 49 #[.agg #[.bool b0, .bool b1, .bool b2, .bool b3, .bool b4]] w fun e w' => Below w.heap.size w w' ∧ e = .returned (.int .i64 (tagB b0 b1 b2 b3 b4)) := by
  cases b0
  · cases b1
    · cases b2
      · cases b3
        · cases b4
          · go_enter Try.func49, Try.ntmps49
            go_wp2
            go_ret
            exact ⟨(by repeat (first | with_reducible exact Below.refl _ _ | with_reducible assumption | with_reducible refine Below.drew ?_ | with_reducible refine Below.drewN ?_ _ | with_reducible refine Below.alloc2 ?_ _ | with_reducible refine Below.alloc ?_ (by first | omega | (simp <;> omega)) _ | with_reducible refine Below.setCell ?_ (by first | omega | (simp <;> omega)) _ | with_reducible refine Below.step2 (by with_reducible assumption) ?_ | with_reducible refine Below.step (by with_reducible assumption) ?_ (by first | omega | (simp <;> omega)))), rfl⟩
          · go_enter Try.func49, Try.ntmps49
            go_wp2
            go_ret
            exact ⟨(by repeat (first | with_reducible exact Below.refl _ _ | with_reducible assumption | with_reducible refine Below.drew ?_ | with_reducible refine Below.drewN ?_ _ | with_reducible refine Below.alloc2 ?_ _ | with_reducible refine Below.alloc ?_ (by first | omega | (simp <;> omega)) _ | with_reducible refine Below.setCell ?_ (by first | omega | (simp <;> omega)) _ | with_reducible refine Below.step2 (by with_reducible assumption) ?_ | with_reducible refine Below.step (by with_reducible assumption) ?_ (by first | omega | (simp <;> omega)))), rfl⟩
        · go_enter Try.func49, Try.ntmps49
          go_wp2
          go_ret
          exact ⟨(by repeat (first | with_reducible exact Below.refl _ _ | with_reducible assumption | with_reducible refine Below.drew ?_ | with_reducible refine Below.drewN ?_ _ | with_reducible refine Below.alloc2 ?_ _ | with_reducible refine Below.alloc ?_ (by first | omega | (simp <;> omega)) _ | with_reducible refine Below.setCell ?_ (by first | omega | (simp <;> omega)) _ | with_reducible refine Below.step2 (by with_reducible assumption) ?_ | with_reducible refine Below.step (by with_reducible assumption) ?_ (by first | omega | (simp <;> omega)))), rfl⟩
      · go_enter Try.func49, Try.ntmps49
        go_wp2
        go_ret
        exact ⟨(by repeat (first | with_reducible exact Below.refl _ _ | with_reducible assumption | with_reducible refine Below.drew ?_ | with_reducible refine Below.drewN ?_ _ | with_reducible refine Below.alloc2 ?_ _ | with_reducible refine Below.alloc ?_ (by first | omega | (simp <;> omega)) _ | with_reducible refine Below.setCell ?_ (by first | omega | (simp <;> omega)) _ | with_reducible refine Below.step2 (by with_reducible assumption) ?_ | with_reducible refine Below.step (by with_reducible assumption) ?_ (by first | omega | (simp <;> omega)))), rfl⟩
    · go_enter Try.func49, Try.ntmps49
      go_wp2
      go_ret
      exact ⟨(by repeat (first | with_reducible exact Below.refl _ _ | with_reducible assumption | with_reducible refine Below.drew ?_ | with_reducible refine Below.drewN ?_ _ | with_reducible refine Below.alloc2 ?_ _ | with_reducible refine Below.alloc ?_ (by first | omega | (simp <;> omega)) _ | with_reducible refine Below.setCell ?_ (by first | omega | (simp <;> omega)) _ | with_reducible refine Below.step2 (by with_reducible assumption) ?_ | with_reducible refine Below.step (by with_reducible assumption) ?_ (by first | omega | (simp <;> omega)))), rfl⟩
  · go_enter Try.func49, Try.ntmps49
    go_wp2
    go_ret
    exact ⟨(by repeat (first | with_reducible exact Below.refl _ _ | with_reducible assumption | with_reducible refine Below.drew ?_ | with_reducible refine Below.drewN ?_ _ | with_reducible refine Below.alloc2 ?_ _ | with_reducible refine Below.alloc ?_ (by first | omega | (simp <;> omega)) _ | with_reducible refine Below.setCell ?_ (by first | omega | (simp <;> omega)) _ | with_reducible refine Below.step2 (by with_reducible assumption) ?_ | with_reducible refine Below.step (by with_reducible assumption) ?_ (by first | omega | (simp <;> omega)))), rfl⟩

/-- What the range over open defects has found, where some are still to come. -/
structure InvB (f : Df → Option Bool) (lf : Df → Bool) (g l : Bool) : Prop where
  g1 : g = true → ∃ q, dfOk q ∧ f q = some true
  l1 : l = true → ∃ q, dfOk q ∧ f q = some false
  g2 : ∀ q, dfOk q → f q = some true → lf q = true ∨ g = true
  l2 : ∀ q, dfOk q → f q = some false → lf q = true ∨ l = true
theorem InvB.start (f : Df → Option Bool) : InvB f (fun q => (f q).isSome) false false :=
  ⟨fun h => (by cases h), fun h => (by cases h), fun q _ h => .inl (by simp [h]), fun q _ h => .inl (by simp [h])⟩
theorem InvB.grave {f : Df → Option Bool} {lf : Df → Bool} {g l : Bool} (h : InvB f lf g l) {x : Df} (hx : dfOk x) (hf : f x = some true) : InvB f (fun z => lf z && !decide (z = x)) true l :=
  ⟨fun _ => ⟨x, hx, hf⟩, h.l1, fun _ _ _ => .inr rfl, fun q hq hfq => by
    have hne : q ≠ x := fun e => by rw [e, hf] at hfq; cases hfq
    rcases h.l2 q hq hfq with h1 | h1
    · exact .inl (by simp [h1, hne])
    · exact .inr h1⟩
theorem InvB.light {f : Df → Option Bool} {lf : Df → Bool} {g l : Bool} (h : InvB f lf g l) {x : Df} (hx : dfOk x) (hf : f x = some false) : InvB f (fun z => lf z && !decide (z = x)) g true :=
  ⟨h.g1, fun _ => ⟨x, hx, hf⟩, fun q hq hfq => by
    have hne : q ≠ x := fun e => by rw [e, hf] at hfq; cases hfq
    rcases h.g2 q hq hfq with h1 | h1
    · exact .inl (by simp [h1, hne])
    · exact .inr h1, fun _ _ _ => .inr rfl⟩
def OpB (f : Df → Option Bool) (b : Bool) (g : Bool) : Prop := g = true ↔ ∃ q, dfOk q ∧ f q = some b
theorem InvB.end_ {f : Df → Option Bool} {lf : Df → Bool} {g l : Bool} (h : InvB f lf g l) (hd : ∀ q, dfOk q → lf q = false) : OpB f true g ∧ OpB f false l :=
  ⟨⟨h.g1, fun ⟨q, hq, hf⟩ => (h.g2 q hq hf).resolve_left (by rw [hd q hq]; simp)⟩, ⟨h.l1, fun ⟨q, hq, hf⟩ => (h.l2 q hq hf).resolve_left (by rw [hd q hq]; simp)⟩⟩
theorem Bk.five {w : World} {g t : Nat} {a b c d e : Value} (h : Bk w g t #[a, b, c, d, e]) :
    (w.cell? ⟨g, 0, none⟩ = some a ∧ w.cell? ⟨g, 1, none⟩ = some b ∧ w.cell? ⟨g, 2, none⟩ = some c ∧ w.cell? ⟨g, 3, none⟩ = some d ∧ w.cell? ⟨g, 4, none⟩ = some e) ∧
    w.frozen? ⟨g, 0, none⟩ = false ∧ w.frozen? ⟨g, 1, none⟩ = false ∧ w.frozen? ⟨g, 2, none⟩ = false ∧ w.frozen? ⟨g, 3, none⟩ = false ∧ w.frozen? ⟨g, 4, none⟩ = false :=
  ⟨⟨by simpa using h.cell 0, by simpa using h.cell 1, by simpa using h.cell 2, by simpa using h.cell 3, by simpa using h.cell 4⟩, h.frozen 0, h.frozen 1, h.frozen 2, h.frozen 3, h.frozen 4⟩
def aB2 (s : St) (day : Int) : Bool := !s.is || decide (s.d + 7 < day)

theorem stF_d {s : St} {x : Ev} (hs : 0 ≤ s.d ∧ s.d ≤ 1000000000) (hx : 0 ≤ x.d ∧ x.d ≤ 1000000000) : 0 ≤ (stF s x).d ∧ (stF s x).d ≤ 1000000000 := by
  unfold stF
  repeat (first | exact hs | exact hx | split)
theorem fold_d : ∀ (F : List Ev) (s : St), 0 ≤ s.d ∧ s.d ≤ 1000000000 → (∀ x ∈ F, 0 ≤ x.d ∧ x.d ≤ 1000000000) → 0 ≤ (F.foldl stF s).d ∧ (F.foldl stF s).d ≤ 1000000000
  | [], _, hs, _ => hs
  | x :: F, s, hs, h => fold_d F (stF s x) (stF_d hs (h x (List.mem_cons_self ..))) fun y hy => h y (List.mem_cons_of_mem _ hy)
set_option maxRecDepth 100000 in
set_option maxHeartbeats 8000000 in
theorem againstOf_any (A : Option Addr) (n c : Nat) (l : List Ev) (p : ByteArray) (day : Int) (w : World) (h : Rws Ev.cs 6 w w.heap.size A n c l) (hn : n ≤ 1000) (hs : ∀ x ∈ l, x.p.size ≤ 30) (ho : ∀ x ∈ l, evOk x) (hd : ∀ x ∈ l, 0 ≤ x.d ∧ x.d ≤ 1000000000) :
    Calls Try.prog 48 #[.slice A n c, .string p, .int .i64 day] w fun e w' => Below w.heap.size w w' ∧ ∃ g t, OpB (opn (l.filter (ownE p day))) true g ∧ OpB (opn (l.filter (ownE p day))) false t ∧ e = .returned (.agg #[.bool (!(stOf (l.filter (ownE p day))).de), .bool (!(stOf (l.filter (ownE p day))).ho), .bool (aB2 (stOf (l.filter (ownE p day))) day), .bool g, .bool t]) := by
  have hcap := h.cap
  have hmax := h.max
  have SO : Hid (∀ W, Below w.heap.size w W → Calls Try.prog 50 #[.slice A n c, .string p, .int .i64 day] W fun e w' => Below W.heap.size W w' ∧ ∃ gm m, W.heap.size ≤ gm ∧ m ≤ 1000 ∧ e = .returned (.agg ((stOf (l.filter (ownE p day))).cs gm)) ∧ BMap w' Try.prog 92 4 dfV dfOk gm m (opn (l.filter (ownE p day)))) := Lib.hid fun W hW => statusOf_any A n c l p day W (h.below hW (Nat.le_refl _) hW.size) hn hs ho
  have hdd := fold_d (l.filter (ownE p day)) st0 (by simp [st0]) (fun x hx => hd x (List.mem_filter.1 hx).1)
  clear h hs ho hd
  generalize l.filter (ownE p day) = F at SO hdd ⊢
  change 0 ≤ (stOf F).d ∧ (stOf F).d ≤ 1000000000 at hdd
  generalize opn F = f at SO ⊢
  generalize stOf F = s at SO hdd ⊢
  obtain ⟨q0, q1, q2, q3, q4⟩ := s
  dsimp only at hdd ⊢
  unfold St.cs at SO
  dsimp only at SO
  obtain ⟨hd0, hd1⟩ := hdd
  have hw7 : IntKind.i64.wrap (q4 + 7) = q4 + 7 := IntWalk.i64_in _ (by omega)
  obtain ⟨v2, hv2⟩ : ∃ v, decide (day > q4 + 7) = v := ⟨_, rfl⟩
  cases q3
  · go_enter Try.func48, Try.ntmps48
    go_wp2_with (first | (go_at_call 50; refine (SO.out _ (by exact (by repeat (first | with_reducible exact Below.refl _ _ | with_reducible assumption | with_reducible refine Below.drew ?_ | with_reducible refine Below.drewN ?_ _ | with_reducible refine Below.alloc2 ?_ _ | with_reducible refine Below.alloc ?_ (by first | omega | (simp <;> omega)) _ | with_reducible refine Below.setCell ?_ (by first | omega | (simp <;> omega)) _ | with_reducible refine Below.step2 (by with_reducible assumption) ?_ | with_reducible refine Below.step (by with_reducible assumption) ?_ (by first | omega | (simp <;> omega)))))).mono ?_; rintro e w1 ⟨hb1, gm, m, hgm, hm, rfl, hmap⟩; have HM1 := Lib.hid hmap; have HZ1 : Hid (Bk w1 w.heap.size 85 #[.bool false, .bool false, .bool false, .bool false, .bool false]) := Lib.hid ((Bk.at_ rfl).below hb1 (by simp)); have HB1 : Hid (Below w.heap.size w w1) := Lib.hid (((Below.refl _ w).alloc (Nat.le_refl _) _).trans (hb1.mono (by simp))); have ow1 := hb1.size; have olm := hmap.lt; (try simp at ow1 hgm); clear hmap hb1) | (at_range; refine wpList_range_b rfl _ rfl (df_keys w) Try.underlying80 rfl ((HM1.out.alloc _).alloc _) (r := w1.heap.size + 1 + 1) (by simp) ?_; intro w2 cnt hrg _ hg2 hs2; have HR2 := Lib.hid hrg; have HA2 : Hid (Bk w2 (w1.heap.size + 1) 85 _) := Lib.hid ((hg2.block _ (by simp) (by simp)).trans (Bk.at_ (by simp))); have HZ2 : Hid (Bk w2 w.heap.size 85 #[.bool false, .bool false, .bool false, .bool false, .bool false]) := Lib.hid ((hg2.block _ (by simp; omega) (by simp)).trans ((HZ1.out.alloc _).alloc _)); have HB2 : Hid (Below w.heap.size w w2) := Lib.hid (Below.grown_ ((HB1.out.alloc HB1.out.size _).alloc (by simp; omega) _) hg2 (by simp; omega) (fun q hq => by cases hq)); clear hrg hg2))
    go_frame
    go_loopw [10] (fun _ wr => ∃ (cnt : Nat) (lf : Df → Bool) (g t : Bool), Hid (BRng wr Try.prog 92 4 dfV dfOk gm (w1.heap.size + 1 + 1) m f lf cnt) ∧ Hid (Bk wr (w1.heap.size + 1) 85 #[.bool (!q1), .bool (!q2), .bool true, .bool g, .bool t]) ∧ Hid (InvB f lf g t) ∧ Hid (Bk wr w.heap.size 85 #[.bool false, .bool false, .bool false, .bool false, .bool false]) ∧ Hid (Below w.heap.size w wr)) (fun _ wr => wr.rangeLeft gm (w1.heap.size + 1 + 1))
    case atStart => exact ⟨cnt, _, false, false, HR2, HA2, Lib.hid (InvB.start f), HZ2, HB2⟩
    case round =>
      obtain ⟨cnt, lf, g, t, HR, HA, HI, HZ, HB⟩ := hrel
      have orr := HR.out.lt.1
      have oaa := HA.out.lt
      go_wp2_with (at_next; refine wpList_next_b rfl _ rfl (df_keys w) Try.underlying4 rfl HR.out ?_ ?_; rotate_left; intro x cc w3 cnt3 hx hlx hfx hrg3 hlt hg3 hs3 hen; have HA3 : Hid (Bk w3 (w1.heap.size + 1) 85 _) := Lib.hid ((hg3.block _ oaa (by simp)).trans HA.out); have HZ3 : Hid (Bk w3 w.heap.size 85 #[.bool false, .bool false, .bool false, .bool false, .bool false]) := Lib.hid ((hg3.block _ HZ.out.lt (by simp; omega)).trans HZ.out); have HB3 : Hid (Below w.heap.size w w3) := Lib.hid (Below.grown_ HB.out hg3 HB.out.size (fun q hq => by cases hq; omega)); have HR3 := Lib.hid hrg3; obtain ⟨⟨z0, z1, z2, z3, z4⟩, f0, f1, f2, f3, f4⟩ := HA3.out.five; have HM3 := Lib.hid (And.intro hrg3.left_eq hlt); have HI3 : Hid (InvB f (fun z => lf z && !decide (z = x)) (cc || g) (!cc || t)) := Lib.hid (by cases cc; exact HI.out.light hx hfx; exact HI.out.grave hx hfx); clear hrg3 hg3 hx hlx hfx hlt; cases cc; rotate_left; rotate_left; intro hdn; have HE := Lib.hid (HI.out.end_ hdn); clear hdn; obtain ⟨⟨z0, z1, z2, z3, z4⟩, -⟩ := HA.out.five; obtain ⟨⟨y0, y1, y2, y3, y4⟩, f0, f1, f2, f3, f4⟩ := HZ.out.five; rotate_left)
      · go_roundw
        case rel => exact ⟨cnt3, _, g, true, Lib.hid (HR3.out.kept (grown_set _ _ _ _) (by simp; omega) (by simp)), Lib.hid (Bk.cast (HA3.out.set_ 4 (.bool true)) (by simp)), HI3, Lib.hid (HZ3.out.other (by simp; omega) _), Lib.hid (HB3.out.setCell (by simp; omega) _)⟩
        case measure => rw [(HR3.out.kept (grown_set w3 (w1.heap.size + 1) 4 (.bool true)) (by simp; omega) (by simp)).left_eq, HR.out.left_eq]; exact HM3.out.2
      · go_roundw
        case rel => exact ⟨cnt3, _, true, t, Lib.hid (HR3.out.kept (grown_set _ _ _ _) (by simp; omega) (by simp)), Lib.hid (Bk.cast (HA3.out.set_ 3 (.bool true)) (by simp)), HI3, Lib.hid (HZ3.out.other (by simp; omega) _), Lib.hid (HB3.out.setCell (by simp; omega) _)⟩
        case measure => rw [(HR3.out.kept (grown_set w3 (w1.heap.size + 1) 3 (.bool true)) (by simp; omega) (by simp)).left_eq, HR.out.left_eq]; exact HM3.out.2
      · refine bodyPost_ret (v := .agg #[.bool (!q1), .bool (!q2), .bool true, .bool g, .bool t]) (by simp [results, Try.results48, go_sem, y0, y1, y2, y3, y4]) rfl ⟨?_, g, t, HE.out.1, HE.out.2, by simp [aB2]⟩
        (repeat (with_reducible refine Below.setCell ?_ (by simp) _))
        exact HB.out
  · go_enter Try.func48, Try.ntmps48
    go_wp2_with (first | (go_at_call 50; refine (SO.out _ (by exact (by repeat (first | with_reducible exact Below.refl _ _ | with_reducible assumption | with_reducible refine Below.drew ?_ | with_reducible refine Below.drewN ?_ _ | with_reducible refine Below.alloc2 ?_ _ | with_reducible refine Below.alloc ?_ (by first | omega | (simp <;> omega)) _ | with_reducible refine Below.setCell ?_ (by first | omega | (simp <;> omega)) _ | with_reducible refine Below.step2 (by with_reducible assumption) ?_ | with_reducible refine Below.step (by with_reducible assumption) ?_ (by first | omega | (simp <;> omega)))))).mono ?_; rintro e w1 ⟨hb1, gm, m, hgm, hm, rfl, hmap⟩; have HM1 := Lib.hid hmap; have HZ1 : Hid (Bk w1 w.heap.size 85 #[.bool false, .bool false, .bool false, .bool false, .bool false]) := Lib.hid ((Bk.at_ rfl).below hb1 (by simp)); have HB1 : Hid (Below w.heap.size w w1) := Lib.hid (((Below.refl _ w).alloc (Nat.le_refl _) _).trans (hb1.mono (by simp))); have ow1 := hb1.size; have olm := hmap.lt; (try simp at ow1 hgm); clear hmap hb1) | (at_range; refine wpList_range_b rfl _ rfl (df_keys w) Try.underlying80 rfl ((HM1.out.alloc _).alloc _) (r := w1.heap.size + 1 + 1) (by simp) ?_; intro w2 cnt hrg _ hg2 hs2; have HR2 := Lib.hid hrg; have HA2 : Hid (Bk w2 (w1.heap.size + 1) 85 _) := Lib.hid ((hg2.block _ (by simp) (by simp)).trans (Bk.at_ (by simp))); have HZ2 : Hid (Bk w2 w.heap.size 85 #[.bool false, .bool false, .bool false, .bool false, .bool false]) := Lib.hid ((hg2.block _ (by simp; omega) (by simp)).trans ((HZ1.out.alloc _).alloc _)); have HB2 : Hid (Below w.heap.size w w2) := Lib.hid (Below.grown_ ((HB1.out.alloc HB1.out.size _).alloc (by simp; omega) _) hg2 (by simp; omega) (fun q hq => by cases hq)); clear hrg hg2))
    go_frame
    go_loopw [10] (fun _ wr => ∃ (cnt : Nat) (lf : Df → Bool) (g t : Bool), Hid (BRng wr Try.prog 92 4 dfV dfOk gm (w1.heap.size + 1 + 1) m f lf cnt) ∧ Hid (Bk wr (w1.heap.size + 1) 85 #[.bool (!q1), .bool (!q2), .bool v2, .bool g, .bool t]) ∧ Hid (InvB f lf g t) ∧ Hid (Bk wr w.heap.size 85 #[.bool false, .bool false, .bool false, .bool false, .bool false]) ∧ Hid (Below w.heap.size w wr)) (fun _ wr => wr.rangeLeft gm (w1.heap.size + 1 + 1))
    case atStart => exact ⟨cnt, _, false, false, HR2, HA2, Lib.hid (InvB.start f), HZ2, HB2⟩
    case round =>
      obtain ⟨cnt, lf, g, t, HR, HA, HI, HZ, HB⟩ := hrel
      have orr := HR.out.lt.1
      have oaa := HA.out.lt
      go_wp2_with (at_next; refine wpList_next_b rfl _ rfl (df_keys w) Try.underlying4 rfl HR.out ?_ ?_; rotate_left; intro x cc w3 cnt3 hx hlx hfx hrg3 hlt hg3 hs3 hen; have HA3 : Hid (Bk w3 (w1.heap.size + 1) 85 _) := Lib.hid ((hg3.block _ oaa (by simp)).trans HA.out); have HZ3 : Hid (Bk w3 w.heap.size 85 #[.bool false, .bool false, .bool false, .bool false, .bool false]) := Lib.hid ((hg3.block _ HZ.out.lt (by simp; omega)).trans HZ.out); have HB3 : Hid (Below w.heap.size w w3) := Lib.hid (Below.grown_ HB.out hg3 HB.out.size (fun q hq => by cases hq; omega)); have HR3 := Lib.hid hrg3; obtain ⟨⟨z0, z1, z2, z3, z4⟩, f0, f1, f2, f3, f4⟩ := HA3.out.five; have HM3 := Lib.hid (And.intro hrg3.left_eq hlt); have HI3 : Hid (InvB f (fun z => lf z && !decide (z = x)) (cc || g) (!cc || t)) := Lib.hid (by cases cc; exact HI.out.light hx hfx; exact HI.out.grave hx hfx); clear hrg3 hg3 hx hlx hfx hlt; cases cc; rotate_left; rotate_left; intro hdn; have HE := Lib.hid (HI.out.end_ hdn); clear hdn; obtain ⟨⟨z0, z1, z2, z3, z4⟩, -⟩ := HA.out.five; obtain ⟨⟨y0, y1, y2, y3, y4⟩, f0, f1, f2, f3, f4⟩ := HZ.out.five; rotate_left)
      · go_roundw
        case rel => exact ⟨cnt3, _, g, true, Lib.hid (HR3.out.kept (grown_set _ _ _ _) (by simp; omega) (by simp)), Lib.hid (Bk.cast (HA3.out.set_ 4 (.bool true)) (by simp)), HI3, Lib.hid (HZ3.out.other (by simp; omega) _), Lib.hid (HB3.out.setCell (by simp; omega) _)⟩
        case measure => rw [(HR3.out.kept (grown_set w3 (w1.heap.size + 1) 4 (.bool true)) (by simp; omega) (by simp)).left_eq, HR.out.left_eq]; exact HM3.out.2
      · go_roundw
        case rel => exact ⟨cnt3, _, true, t, Lib.hid (HR3.out.kept (grown_set _ _ _ _) (by simp; omega) (by simp)), Lib.hid (Bk.cast (HA3.out.set_ 3 (.bool true)) (by simp)), HI3, Lib.hid (HZ3.out.other (by simp; omega) _), Lib.hid (HB3.out.setCell (by simp; omega) _)⟩
        case measure => rw [(HR3.out.kept (grown_set w3 (w1.heap.size + 1) 3 (.bool true)) (by simp; omega) (by simp)).left_eq, HR.out.left_eq]; exact HM3.out.2
      · refine bodyPost_ret (v := .agg #[.bool (!q1), .bool (!q2), .bool v2, .bool g, .bool t]) (by simp [results, Try.results48, go_sem, y0, y1, y2, y3, y4]) rfl ⟨?_, g, t, HE.out.1, HE.out.2, by simp [aB2, ← hv2]⟩
        (repeat (with_reducible refine Below.setCell ?_ (by simp) _))
        exact HB.out

end Go.Proofs.Ytgjjjnofdjhikaa

/- Chapter 9: the open defects of the program's map and those of the reference's list; a record up to a day is a record. No walk. -/
namespace Go.Proofs.Ytgjjjnofdjhikaa
open Go.RowKit Go.Maps

theorem snoc_rev {P : List Ev → Prop} (h0 : P []) (h1 : ∀ U x, P U → P (U ++ [x])) : ∀ R : List Ev, P R.reverse
  | [] => h0
  | x :: r => by rw [List.reverse_cons]; exact h1 _ _ (snoc_rev h0 h1 r)
theorem snoc_ind {P : List Ev → Prop} (h0 : P []) (h1 : ∀ U x, P U → P (U ++ [x])) (U : List Ev) : P U := by
  have := snoc_rev h0 h1 U.reverse
  rwa [List.reverse_reverse] at this
theorem repIn_snoc (l : List Ev) (x : Ev) (p : ByteArray) (n : Int) : repIn (l ++ [x]) p n = (repIn l p n || isRe p n x) := by simp [repIn]
theorem olistG_snoc (g : Bool) (x : Ev) (p : ByteArray) : ∀ l : List Ev, olistG g (l ++ [x]) p = (olistG g l p).filter (fun n => !isRe p n x) ++ if isG g p x then [x.n] else []
  | [] => by
    simp only [List.nil_append, olistG]
    by_cases h : isG g p x = true <;> simp [h, repIn]
  | y :: r => by
    simp only [List.cons_append, olistG, repIn_snoc]
    rw [olistG_snoc g x p r]
    by_cases h : isG g p y = true
    · by_cases h1 : repIn r p y.n = true
      · simp [h, h1]
      · by_cases h2 : isRe p y.n x = true
        · simp [h, h1, h2]
        · simp [h, h1, h2]
    · simp [h]
theorem rGo_split : ∀ (a seen b : List Ev), rGo seen (a ++ b) = 0 → rGo seen a = 0 ∧ rGo (seen ++ a) b = 0
  | [], seen, b, h => ⟨rfl, by simpa using h⟩
  | y :: r, seen, b, h => by
    rw [List.cons_append, rGo] at h
    split at h
    · rename_i h0
      obtain ⟨h1, h2⟩ := rGo_split r (seen ++ [y]) b h
      refine ⟨by rw [rGo, if_pos h0]; exact h1, ?_⟩
      simpa using h2
    · contradiction
theorem rGo_snoc {a : List Ev} {x : Ev} (h : rGo [] (a ++ [x]) = 0) : rGo [] a = 0 ∧ eE a x = 0 := by
  obtain ⟨h1, h2⟩ := rGo_split a [] [x] h
  refine ⟨h1, ?_⟩
  rw [rGo, List.nil_append] at h2
  split at h2
  · assumption
  · contradiction
theorem eE_more {seen : List Ev} {x : Ev} (h : eE seen x = 0) : lastE seen ≤ x.d ∧ ((x.k = 4) → opn seen (x.p, x.n) = none) := by
  unfold eE eEr at h
  split at h
  · split at h
    · cases h
    · rename_i h4
      split at h
      · split at h
        · split at h
          · cases h
          · rename_i h7
            refine ⟨by simpa using h4, fun hk => ?_⟩
            simpa [hk] using h7
        · cases h
      · cases h
  · cases h
/-- In a record: what is told of a platform's defects, last. -/
theorem open_iff (p : ByteArray) : ∀ (U : List Ev), rGo [] U = 0 → ∀ n b, n ∈ olistG b U p ↔ opn U (p, n) = some b := by
  intro U
  refine snoc_ind (P := fun U => rGo [] U = 0 → ∀ n b, n ∈ olistG b U p ↔ opn U (p, n) = some b) ?_ ?_ U
  · intro _ n b; simp [olistG, opn]
  · intro U x ih h n b
    obtain ⟨h1, h2⟩ := rGo_snoc h
    obtain ⟨-, h4⟩ := eE_more h2
    have ih := ih h1
    rw [olistG_snoc, List.mem_append, List.mem_filter, ih]
    have e : opn (U ++ [x]) = opF (opn U) x := by simp [opn]
    rw [e]
    unfold opF
    by_cases hp : x.p = p
    · have hq : eqS x.p p = true := eqS_iff.2 hp
      by_cases k4 : x.k = 4
      · have hn := h4 k4
        have hr : isRe p n x = false := by simp [isRe, k4]
        have hg : isG b p x = (x.gr == b) := by simp [isG, isD, k4, hq]
        rw [if_pos k4, hr, hg]
        by_cases e : n = x.n
        · subst e
          subst hp
          rw [hn, if_pos rfl]
          cases x.gr <;> cases b <;> simp
        · have e2 : ¬ (p, n) = (x.p, x.n) := fun q => e (congrArg Prod.snd q)
          rw [if_neg e2]
          cases hgb : (x.gr == b) <;> simp [e]
      · have hg : isG b p x = false := by simp [isG, isD, k4]
        rw [if_neg k4, hg]
        by_cases k5 : x.k = 5
        · rw [if_pos k5]
          by_cases e : n = x.n
          · have hr : isRe p n x = true := by simp [isRe, k5, hq, e]
            have e3 : (p, n) = (x.p, x.n) := by rw [e, hp]
            rw [if_pos e3, hr]
            simp
          · have hr : isRe p n x = false := by simp [isRe, k5, Ne.symm e]
            rw [if_neg (fun q => e (congrArg Prod.snd q)), hr]
            simp
        · have hr : isRe p n x = false := by simp [isRe, k5]
          rw [if_neg k5, hr]
          simp
    · have hq : eqS x.p p = false := eqS_not.2 hp
      have hr : isRe p n x = false := by simp [isRe, hq]
      have hg : isG b p x = false := by simp [isG, isD, hq]
      have e2 : ¬ (p, n) = (x.p, x.n) := fun q => hp (congrArg Prod.fst q).symm
      rw [hr, hg]
      by_cases k4 : x.k = 4
      · rw [if_pos k4, if_neg e2]; simp
      · by_cases k5 : x.k = 5
        · rw [if_neg k4, if_pos k5, if_neg e2]; simp
        · rw [if_neg k4, if_neg k5]; simp
theorem opn_own (p : ByteArray) (U : List Ev) : ∀ q n, opn (U.filter (ownP p)) (q, n) = if q = p then opn U (q, n) else none := by
  refine snoc_ind (P := fun U => ∀ q n, opn (U.filter (ownP p)) (q, n) = if q = p then opn U (q, n) else none) ?_ ?_ U
  · intro q n; simp [opn]
  · intro U x ih q n
    have ih := ih q n
    have e : opn (U ++ [x]) = opF (opn U) x := by simp [opn]
    rw [List.filter_append, e]
    by_cases ho : ownP p x = true
    · have e2 : opn (U.filter (ownP p) ++ [x].filter (ownP p)) = opF (opn (U.filter (ownP p))) x := by simp [opn, ho]
      rw [e2]
      unfold opF
      rw [ih]
      by_cases hq : q = p
      · simp [hq]
      · have hne : x.k = 4 ∨ x.k = 5 → ¬ (q, n) = (x.p, x.n) := fun hk h => by
          unfold ownP at ho
          rw [Bool.or_eq_true] at ho
          rcases ho with h1 | h1
          · exact hq ((congrArg Prod.fst h).trans (eqS_iff.1 h1))
          · have : x.k = 3 := by simpa using h1
            omega
        rw [if_neg hq]
        by_cases k4 : x.k = 4
        · rw [if_pos k4, if_neg (hne (.inl k4)), if_neg hq]
        · by_cases k5 : x.k = 5
          · rw [if_neg k4, if_pos k5, if_neg (hne (.inr k5)), if_neg hq]
          · rw [if_neg k4, if_neg k5, if_neg hq]
    · have ho : ownP p x = false := by simpa using ho
      have e2 : opn (U.filter (ownP p) ++ [x].filter (ownP p)) = opn (U.filter (ownP p)) := by simp [opn, ho]
      rw [e2, ih]
      unfold ownP at ho
      rw [Bool.or_eq_false_iff] at ho
      have hxp := eqS_not.1 ho.1
      by_cases hq : q = p
      · subst hq
        rw [if_pos rfl, if_pos rfl]
        have hne : ¬ (q, n) = (x.p, x.n) := fun h => hxp (congrArg Prod.fst h).symm
        unfold opF
        by_cases k4 : x.k = 4
        · rw [if_pos k4, if_neg hne]
        · by_cases k5 : x.k = 5
          · rw [if_neg k4, if_pos k5, if_neg hne]
          · rw [if_neg k4, if_neg k5]
      · rw [if_neg hq, if_neg hq]
theorem olistG_of (g : Bool) : ∀ (U : List Ev) (p : ByteArray) (n : Int), n ∈ olistG g U p → ∃ x ∈ U, x.n = n
  | [], _, _, h => by simp [olistG] at h
  | x :: r, p, n, h => by
    rw [olistG] at h
    split at h
    · rcases List.mem_cons.1 h with h | h
      · exact ⟨x, List.mem_cons_self .., h.symm⟩
      · obtain ⟨y, hy, e⟩ := olistG_of g r p n h
        exact ⟨y, List.mem_cons_of_mem _ hy, e⟩
    · obtain ⟨y, hy, e⟩ := olistG_of g r p n h
      exact ⟨y, List.mem_cons_of_mem _ hy, e⟩
/-- A record up to a day is a record. -/
theorem ups (day : Int) : ∀ (l seen : List Ev), rGo seen l = 0 → (∀ x ∈ l, day < lastE seen → upF day x = false) ∧ rGo seen (l.filter (upF day)) = 0
  | [], _, _ => ⟨fun x h => by simp at h, rfl⟩
  | y :: r, seen, h => by
    rw [rGo] at h
    split at h
    · rename_i h0
      obtain ⟨h1, -⟩ := eE_more h0
      obtain ⟨i1, i2⟩ := ups day r (seen ++ [y]) h
      have hl : lastE (seen ++ [y]) = y.d := by simp [lastE]
      rw [hl] at i1
      refine ⟨fun x hx hlt => ?_, ?_⟩
      · have hy : ¬ y.d ≤ day := by omega
        rcases List.mem_cons.1 hx with rfl | hx
        · simp [upF]; omega
        · exact i1 x hx (by omega)
      · by_cases hy : y.d ≤ day
        · have e : upF day y = true := by simpa [upF] using hy
          rw [List.filter_cons_of_pos e, rGo, if_pos h0]
          exact i2
        · have e : upF day y = false := by simpa [upF] using hy
          have e2 : r.filter (upF day) = [] := List.filter_eq_nil_iff.2 fun x hx => by rw [i1 x hx (by omega)]; simp
          rw [List.filter_cons_of_neg (by simp [e]), e2]
          rfl
    · contradiction
theorem rec_go {l : List Ev} (h : recErr l = 0) : rGo [] l = 0 := by
  unfold recErr at h
  split at h
  · cases h
  · exact h
/-- The reasons, on both ways. -/
theorem against_same {l : List Ev} (hl : recErr l = 0) (ho : ∀ x ∈ l, evOk x) {p : ByteArray} (hp : p.size ≠ 0) (hp2 : p.size ≤ 30) (day : Int) {g t : Bool} (h1 : OpB (opn (l.filter (ownE p day))) true g) (h2 : OpB (opn (l.filter (ownE p day))) false t) :
    (!(stOf (l.filter (ownE p day))).de) = rB0 (l.filter (upF day)) p ∧ (!(stOf (l.filter (ownE p day))).ho) = rB1 (l.filter (upF day)) p ∧ aB2 (stOf (l.filter (ownE p day))) day = !freshB (l.filter (upF day)) p day ∧ g = decide (0 < (olistG true (l.filter (upF day)) p).length) ∧ t = decide (0 < (olistG false (l.filter (upF day)) p).length) := by
  have hv := (ups day l [] (rec_go hl)).2
  have hpl := rec_plat hl
  have hU : ∀ x ∈ l.filter (upF day), x ∈ l := fun x hx => (List.mem_filter.1 hx).1
  rw [own_two] at h1 h2 ⊢
  generalize l.filter (upF day) = U at *
  have h3 : ∀ x ∈ U, x.k = 3 → eqS x.p p = false := fun x hx hk => by
    have := hpl x (hU x hx)
    rw [platB, if_pos hk] at this
    have hz := emptyS_size.1 this
    exact eqS_not.2 fun e => hp (by rw [← e]; exact hz)
  obtain ⟨i1, i2, i3, i4, i5⟩ := tells U p h3 U.length (Nat.le_refl _)
  have hst : stT U p U.length = stOf (U.filter (ownP p)) := by unfold stT; rw [List.take_length]
  rw [hst] at i1 i2 i3 i4 i5
  generalize stOf (U.filter (ownP p)) = s at *
  have key : ∀ b c, OpB (opn (U.filter (ownP p))) b c → c = decide (0 < (olistG b U p).length) := fun b c hc => by
    rw [Bool.eq_iff_iff, decide_eq_true_iff, List.length_pos_iff_exists_mem]
    refine Iff.trans hc ?_
    constructor
    · rintro ⟨⟨q, n⟩, -, hq⟩
      rw [opn_own] at hq
      split at hq
      · rename_i e
        rw [e] at hq
        exact ⟨n, (open_iff p U hv n b).2 hq⟩
      · cases hq
    · rintro ⟨n, hn⟩
      have hq := (open_iff p U hv n b).1 hn
      obtain ⟨x, hx, rfl⟩ := olistG_of b U p n hn
      exact ⟨(p, x.n), ⟨by show p.size ≤ 1000; omega, ho x (hU x hx)⟩, by rw [opn_own, if_pos rfl]; exact hq⟩
  refine ⟨?_, ?_, ?_, key _ _ h1, key _ _ h2⟩
  · rw [i2]
    unfold rB0
    rw [Bool.eq_iff_iff]
    simp
  · rw [i3]
    unfold rB1
    rw [Bool.eq_iff_iff]
    cases psAt U (lastTo U 1 p U.length) <;> simp
  · unfold aB2 freshB
    by_cases hf : 0 ≤ frTo U p U.length
    · obtain ⟨x, hx, hd⟩ := i5 hf
      rw [i4, if_pos hf, hx, ← hd]
      rw [Bool.eq_iff_iff]
      simp [hf]
      omega
    · rw [i4, if_neg hf]
      simp [hf]

end Go.Proofs.Ytgjjjnofdjhikaa
