/- Several texts in one. -/
import Derived.Test.YtgjjjnofdjhikaaAgG9
import Derived.Test.YtgjjjnofdjhikaaRefD9
/- Chapter 9, walks: Due and Released of the program. -/
namespace Go.Proofs.Ytgjjjnofdjhikaa
open Go.RowKit Go.Maps

set_option maxHeartbeats 4000000 in
theorem due1_any (b0 b1 b2 b3 b4 : Bool) (w : World) :
    Calls Try.prog 58 #[.agg #[.bool b0, .bool b1, .bool b2, .bool b3, .bool b4]] w fun e w' => Below w.heap.size w w' ∧ e = .returned (.bool (b2 && !decide (tagB b0 b1 false b3 b4 = 0))) := by
  have TG : Hid (∀ W, Calls Try.prog 49 #[.agg #[.bool b0, .bool b1, .bool false, .bool b3, .bool b4]] W fun e w' => Below W.heap.size W w' ∧ e = .returned (.int .i64 (tagB b0 b1 false b3 b4))) := Lib.hid fun W => tag_any b0 b1 false b3 b4 W
  generalize tagB b0 b1 false b3 b4 = T at TG ⊢
  cases b2
  · clear TG
    go_enter Try.func58, Try.ntmps58
    go_wp2
    go_ret
    exact ⟨(by repeat (first | with_reducible exact Below.refl _ _ | with_reducible assumption | with_reducible refine Below.drew ?_ | with_reducible refine Below.drewN ?_ _ | with_reducible refine Below.alloc2 ?_ _ | with_reducible refine Below.alloc ?_ (by first | omega | (simp <;> omega)) _ | with_reducible refine Below.setCell ?_ (by first | omega | (simp <;> omega)) _ | with_reducible refine Below.step2 (by with_reducible assumption) ?_ | with_reducible refine Below.step (by with_reducible assumption) ?_ (by first | omega | (simp <;> omega)))), ret_bool (by simp)⟩
  · go_enter Try.func58, Try.ntmps58
    go_wp2_with (go_at_call 49; refine (TG.out _).mono ?_; rintro e w1 ⟨hb1, rfl⟩; have HB1 : Hid (Below w.heap.size w w1) := Lib.hid (Below.trans (by exact (by repeat (first | with_reducible exact Below.refl _ _ | with_reducible assumption | with_reducible refine Below.drew ?_ | with_reducible refine Below.drewN ?_ _ | with_reducible refine Below.alloc2 ?_ _ | with_reducible refine Below.alloc ?_ (by first | omega | (simp <;> omega)) _ | with_reducible refine Below.setCell ?_ (by first | omega | (simp <;> omega)) _ | with_reducible refine Below.step2 (by with_reducible assumption) ?_ | with_reducible refine Below.step (by with_reducible assumption) ?_ (by first | omega | (simp <;> omega))))) (hb1.mono (by simp))); clear hb1)
    go_ret
    exact ⟨HB1.out, ret_bool (by by_cases h : T = 0 <;> simp [h])⟩
set_option maxHeartbeats 4000000 in
theorem rel1_any (b0 b1 b2 b3 b4 : Bool) (w : World) :
    Calls Try.prog 59 #[.agg #[.bool b0, .bool b1, .bool b2, .bool b3, .bool b4]] w fun e w' => Below w.heap.size w w' ∧ e = .returned (.bool (decide (tagB b0 b1 b2 b3 b4 = 2))) := by
  have TG : Hid (∀ W, Calls Try.prog 49 #[.agg #[.bool b0, .bool b1, .bool b2, .bool b3, .bool b4]] W fun e w' => Below W.heap.size W w' ∧ e = .returned (.int .i64 (tagB b0 b1 b2 b3 b4))) := Lib.hid fun W => tag_any b0 b1 b2 b3 b4 W
  generalize tagB b0 b1 b2 b3 b4 = T at TG ⊢
  go_enter Try.func59, Try.ntmps59
  go_wp2_with (go_at_call 49; refine (TG.out _).mono ?_; rintro e w1 ⟨hb1, rfl⟩; have HB1 : Hid (Below w.heap.size w w1) := Lib.hid (Below.trans (by exact (by repeat (first | with_reducible exact Below.refl _ _ | with_reducible assumption | with_reducible refine Below.drew ?_ | with_reducible refine Below.drewN ?_ _ | with_reducible refine Below.alloc2 ?_ _ | with_reducible refine Below.alloc ?_ (by first | omega | (simp <;> omega)) _ | with_reducible refine Below.setCell ?_ (by first | omega | (simp <;> omega)) _ | with_reducible refine Below.step2 (by with_reducible assumption) ?_ | with_reducible refine Below.step (by with_reducible assumption) ?_ (by first | omega | (simp <;> omega))))) (hb1.mono (by simp))); clear hb1)
  go_ret
  exact ⟨HB1.out, ret_bool (by by_cases h : T = 2 <;> simp [h])⟩
theorem dueR_rs (b0 b1 b2 b3 b4 : Bool) : dueR (rs b0 b1 b2 b3 b4) = (b2 && !decide (tagB b0 b1 false b3 b4 = 0)) := by
  cases b0 <;> cases b1 <;> cases b2 <;> cases b3 <;> cases b4 <;> decide
theorem tagR_rs (b0 b1 b2 b3 b4 : Bool) : tagR (rs b0 b1 b2 b3 b4) = tagB b0 b1 b2 b3 b4 := by
  cases b0 <;> cases b1 <;> cases b2 <;> cases b3 <;> cases b4 <;> decide
theorem platsR_ne {l : List Ev} {t : Tx} (h : t ∈ platsR l) : t ≠ [] ∧ ∃ x ∈ l, x.p.data.toList = t := by
  obtain ⟨-, b2⟩ := foldR_ok (l.map fun x => x.p.data.toList) [] List.Pairwise.nil
  rcases (b2 t).1 h with h | ⟨h, h0⟩
  · cases h
  · obtain ⟨x, hx, e⟩ := List.mem_map.1 h
    exact ⟨h0, x, hx, e⟩
theorem ba_of {t : Tx} {p : ByteArray} (h : p.data.toList = t) : (⟨t.toArray⟩ : ByteArray) = p := by
  subst h
  cases p
  simp
theorem rec_days {l : List Ev} (h : recErr l = 0) : ∀ x ∈ l, 0 ≤ x.d ∧ x.d ≤ 1000000000 := by
  have key : ∀ (l seen : List Ev), rGo seen l = 0 → ∀ x ∈ l, 0 ≤ x.d ∧ x.d ≤ 1000000000 := by
    intro l
    induction l with
    | nil => intro _ _ x hx; simp at hx
    | cons y r ih =>
      intro seen h x hx
      rw [rGo] at h
      split at h
      · rename_i h0
        rcases List.mem_cons.1 hx with rfl | hx
        · have := dayB_iff.1 (eE_zero h0).1
          omega
        · exact ih _ h x hx
      · contradiction
  exact key l [] (rec_go h)
/-- The reasons against a platform of a record, as one value. -/
def agV (F : List Ev) (p : ByteArray) (day : Int) : Value := .agg #[.bool (rB0 F p), .bool (rB1 F p), .bool (!freshB F p day), .bool (decide (0 < (olistG true F p).length)), .bool (decide (0 < (olistG false F p).length))]
theorem against_rec (A : Option Addr) (n c : Nat) (l : List Ev) (p : ByteArray) (day : Int) (w : World) (h : Rws Ev.cs 6 w w.heap.size A n c l) (hs : ∀ x ∈ l, x.p.size ≤ 30) (ho : ∀ x ∈ l, evOk x) (hE : recErr l = 0) (hp : p.size ≠ 0) (hp2 : p.size ≤ 30) :
    Calls Try.prog 48 #[.slice A n c, .string p, .int .i64 day] w fun e w' => Below w.heap.size w w' ∧ e = .returned (agV (l.filter (upF day)) p day) := by
  have hn := recErr_small hE
  rw [h.len] at hn
  refine (againstOf_any A n c l p day w h (by omega) hs ho (rec_days hE)).mono ?_
  rintro e w' ⟨hb, g, t, h1, h2, rfl⟩
  obtain ⟨e0, e1, e2, e3, e4⟩ := against_same hE ho hp hp2 day h1 h2
  refine ⟨hb, ?_⟩
  rw [e0, e1, e2, e3, e4]
  rfl

end Go.Proofs.Ytgjjjnofdjhikaa

/- Chapter 9, walks: Due and Released of the program, whole. -/
namespace Go.Proofs.Ytgjjjnofdjhikaa
open Go.RowKit Go.Maps

/-- The error of a record, and of a day. -/
def dyErr (l : List Ev) (day : Int) : Int := if recErr l = 0 then (if dayB day then 0 else 2) else recErr l
set_option maxHeartbeats 4000000 in
theorem thatDue_bad (A : Option Addr) (n c : Nat) (l : List Ev) (day : Int) (w : World) (h : Rws Ev.cs 6 w w.heap.size A n c l) (hs : n ≤ 400 → ∀ x ∈ l, x.p.size ≤ 30) (ho : ∀ x ∈ l, evOk x) (E : Int) (hE : dyErr l day = E) (h0 : E ≠ 0) :
    Calls Try.prog 57 #[.slice A n c, .int .i64 day, .func (.func 58) #[] #[]] w fun e w' => Below w.heap.size w w' ∧ e = .returned (.tuple #[.slice none 0 0, .int .i64 E]) := by
  obtain ⟨T, hT⟩ : ∃ T, recErr l = T := ⟨_, rfl⟩
  have CR : Hid (∀ W, Below w.heap.size w W → Calls Try.prog 15 #[.slice A n c] W fun e w' => Below W.heap.size W w' ∧ e = .returned (.int .i64 T)) := Lib.hid fun W hW => by
    have := checkRec_all A n c l W (h.below hW (Nat.le_refl _) hW.size) hs ho
    rwa [hT] at this
  unfold dyErr at hE
  rw [hT] at hE
  clear h hs ho hT
  by_cases hT0 : T = 0
  · rw [if_pos hT0] at hE
    obtain ⟨v, hv⟩ : ∃ v, dayB day = v := ⟨_, rfl⟩
    have HDY := Lib.hid hv
    rw [hv] at hE
    cases v
    · obtain rfl : E = 2 := by simpa using hE.symm
      subst hT0
      clear hE h0 hv
      go_enter Try.func57, Try.ntmps57
      go_wp2_with (first | (go_at_call 15; refine (CR.out _ (by exact (by repeat (first | with_reducible exact Below.refl _ _ | with_reducible assumption | with_reducible refine Below.drew ?_ | with_reducible refine Below.drewN ?_ _ | with_reducible refine Below.alloc2 ?_ _ | with_reducible refine Below.alloc ?_ (by first | omega | (simp <;> omega)) _ | with_reducible refine Below.setCell ?_ (by first | omega | (simp <;> omega)) _ | with_reducible refine Below.step2 (by with_reducible assumption) ?_ | with_reducible refine Below.step (by with_reducible assumption) ?_ (by first | omega | (simp <;> omega)))))).mono ?_; rintro e w1 ⟨hb1, rfl⟩; have HB1 : Hid (Below w.heap.size w w1) := Lib.hid (Below.trans (by exact (by repeat (first | with_reducible exact Below.refl _ _ | with_reducible assumption | with_reducible refine Below.drew ?_ | with_reducible refine Below.drewN ?_ _ | with_reducible refine Below.alloc2 ?_ _ | with_reducible refine Below.alloc ?_ (by first | omega | (simp <;> omega)) _ | with_reducible refine Below.setCell ?_ (by first | omega | (simp <;> omega)) _ | with_reducible refine Below.step2 (by with_reducible assumption) ?_ | with_reducible refine Below.step (by with_reducible assumption) ?_ (by first | omega | (simp <;> omega))))) (hb1.mono (by simp))); clear hb1) | (go_at_call 68; refine (isDay_b HDY.out _).mono ?_; rintro e w2 ⟨hb2, rfl⟩; have HB2 : Hid (Below w.heap.size w w2) := Lib.hid (HB1.out.trans (hb2.mono HB1.out.size)); clear hb2))
      go_ret2
      exact ⟨HB2.out, rfl⟩
    · exact absurd hE.symm h0
  · obtain rfl : T = E := by rwa [if_neg hT0] at hE
    have h0b : (T != 0) = true := by simpa using h0
    clear hE h0 hT0
    go_enter Try.func57, Try.ntmps57
    go_wp2_with (go_at_call 15; refine (CR.out _ (by exact (by repeat (first | with_reducible exact Below.refl _ _ | with_reducible assumption | with_reducible refine Below.drew ?_ | with_reducible refine Below.drewN ?_ _ | with_reducible refine Below.alloc2 ?_ _ | with_reducible refine Below.alloc ?_ (by first | omega | (simp <;> omega)) _ | with_reducible refine Below.setCell ?_ (by first | omega | (simp <;> omega)) _ | with_reducible refine Below.step2 (by with_reducible assumption) ?_ | with_reducible refine Below.step (by with_reducible assumption) ?_ (by first | omega | (simp <;> omega)))))).mono ?_; rintro e w1 ⟨hb1, rfl⟩; have HB1 : Hid (Below w.heap.size w w1) := Lib.hid (Below.trans (by exact (by repeat (first | with_reducible exact Below.refl _ _ | with_reducible assumption | with_reducible refine Below.drew ?_ | with_reducible refine Below.drewN ?_ _ | with_reducible refine Below.alloc2 ?_ _ | with_reducible refine Below.alloc ?_ (by first | omega | (simp <;> omega)) _ | with_reducible refine Below.setCell ?_ (by first | omega | (simp <;> omega)) _ | with_reducible refine Below.step2 (by with_reducible assumption) ?_ | with_reducible refine Below.step (by with_reducible assumption) ?_ (by first | omega | (simp <;> omega))))) (hb1.mono (by simp))); clear hb1)
    go_ret2
    exact ⟨HB1.out, rfl⟩
set_option maxRecDepth 100000 in
set_option maxHeartbeats 8000000 in
theorem thatDue_ok (A : Option Addr) (n c : Nat) (l : List Ev) (day : Int) (w : World) (h : Rws Ev.cs 6 w w.heap.size A n c l) (hs : ∀ x ∈ l, x.p.size ≤ 30) (ho : ∀ x ∈ l, evOk x) (hE : recErr l = 0) (hdy : dayB day = true) (iS : Bool → Bool → Bool → Bool → Bool → Bool)
    (IS : Hid (∀ b0 b1 b2 b3 b4 W, Calls Try.prog 58 #[.agg #[.bool b0, .bool b1, .bool b2, .bool b3, .bool b4]] W fun e w' => Below W.heap.size W w' ∧ e = .returned (.bool (iS b0 b1 b2 b3 b4)))) (pr : Tx → Bool)
    (hpr : ∀ t, pr t = iS (rB0 (l.filter (upF day)) ⟨t.toArray⟩) (rB1 (l.filter (upF day)) ⟨t.toArray⟩) (!freshB (l.filter (upF day)) ⟨t.toArray⟩ day) (decide (0 < (olistG true (l.filter (upF day)) ⟨t.toArray⟩).length)) (decide (0 < (olistG false (l.filter (upF day)) ⟨t.toArray⟩).length))) :
    Calls Try.prog 57 #[.slice A n c, .int .i64 day, .func (.func 58) #[] #[]] w fun e w' => Below w.heap.size w w' ∧ ∃ v, e = .returned (.tuple #[v, .int .i64 0]) ∧ w'.ownsRow w.heap.size 9 1 v ((platsR l).filter pr).length (Ss ((platsR l).filter pr)) := by
  have hn := recErr_small hE
  rw [h.len] at hn
  have CR : Hid (∀ W, Below w.heap.size w W → Calls Try.prog 15 #[.slice A n c] W fun e w' => Below W.heap.size W w' ∧ e = .returned (.int .i64 0)) := Lib.hid fun W hW => by
    have := checkRec_all A n c l W (h.below hW (Nat.le_refl _) hW.size) (fun _ => hs) ho
    rwa [hE] at this
  have HDY := Lib.hid hdy
  have PL : Hid (∀ W, Below w.heap.size w W → Calls Try.prog 42 #[.slice A n c] W fun e w' => Below W.heap.size W w' ∧ ∃ v, e = .returned v ∧ w'.ownsRow W.heap.size 9 1 v (platsR l).length (Ss (platsR l))) := Lib.hid fun W hW => by
    have := platformsOf_any A n c l W (h.below hW (Nat.le_refl _) hW.size) (by omega)
    rwa [plats_same hE] at this
  have hRL : (platsR l).length ≤ 400 := by
    have := platsR_len l n
    rw [List.take_of_length_le (by rw [h.len]; omega)] at this
    omega
  have AG : Hid (∀ t : Tx, t ∈ platsR l → ∀ W, Below w.heap.size w W → Calls Try.prog 48 #[.slice A n c, .string ⟨t.toArray⟩, .int .i64 day] W fun e w' => Below W.heap.size W w' ∧ e = .returned (agV (l.filter (upF day)) ⟨t.toArray⟩ day)) := Lib.hid fun t ht W hW => by
    obtain ⟨t0, x, hx, e⟩ := platsR_ne ht
    have hz := ba_of e
    rw [hz]
    refine against_rec A n c l _ day W (h.below hW (Nat.le_refl _) hW.size) hs ho hE ?_ (hs x hx)
    intro hz2
    exact t0 (e ▸ size_nil hz2)
  obtain ⟨X0, hX0⟩ : ∃ X : Tx → Bool, ∀ t, X t = rB0 (l.filter (upF day)) ⟨t.toArray⟩ := ⟨_, fun _ => rfl⟩
  obtain ⟨X1, hX1⟩ : ∃ X : Tx → Bool, ∀ t, X t = rB1 (l.filter (upF day)) ⟨t.toArray⟩ := ⟨_, fun _ => rfl⟩
  obtain ⟨X2, hX2⟩ : ∃ X : Tx → Bool, ∀ t, X t = !freshB (l.filter (upF day)) ⟨t.toArray⟩ day := ⟨_, fun _ => rfl⟩
  obtain ⟨X3, hX3⟩ : ∃ X : Tx → Bool, ∀ t, X t = decide (0 < (olistG true (l.filter (upF day)) ⟨t.toArray⟩).length) := ⟨_, fun _ => rfl⟩
  obtain ⟨X4, hX4⟩ : ∃ X : Tx → Bool, ∀ t, X t = decide (0 < (olistG false (l.filter (upF day)) ⟨t.toArray⟩).length) := ⟨_, fun _ => rfl⟩
  unfold agV at AG
  simp only [← hX0, ← hX1, ← hX2, ← hX3, ← hX4] at AG hpr
  have HPR := Lib.hid hpr
  generalize platsR l = P at PL hRL AG ⊢
  clear h hs ho hE hdy hX0 hX1 hX2 hX3 hX4 hpr
  obtain ⟨N, hN⟩ : ∃ N, P.length = N := ⟨_, rfl⟩
  rw [hN] at PL hRL
  have HNL := Lib.hid hN
  clear hN
  go_enter Try.func57, Try.ntmps57
  go_wp2_with (first | (go_at_call 15; refine (CR.out _ (by exact (by repeat (first | with_reducible exact Below.refl _ _ | with_reducible assumption | with_reducible refine Below.drew ?_ | with_reducible refine Below.drewN ?_ _ | with_reducible refine Below.alloc2 ?_ _ | with_reducible refine Below.alloc ?_ (by first | omega | (simp <;> omega)) _ | with_reducible refine Below.setCell ?_ (by first | omega | (simp <;> omega)) _ | with_reducible refine Below.step2 (by with_reducible assumption) ?_ | with_reducible refine Below.step (by with_reducible assumption) ?_ (by first | omega | (simp <;> omega)))))).mono ?_; rintro e w1 ⟨hb1, rfl⟩; have HB1 : Hid (Below w.heap.size w w1) := Lib.hid (Below.trans (by exact (by repeat (first | with_reducible exact Below.refl _ _ | with_reducible assumption | with_reducible refine Below.drew ?_ | with_reducible refine Below.drewN ?_ _ | with_reducible refine Below.alloc2 ?_ _ | with_reducible refine Below.alloc ?_ (by first | omega | (simp <;> omega)) _ | with_reducible refine Below.setCell ?_ (by first | omega | (simp <;> omega)) _ | with_reducible refine Below.step2 (by with_reducible assumption) ?_ | with_reducible refine Below.step (by with_reducible assumption) ?_ (by first | omega | (simp <;> omega))))) (hb1.mono (by simp))); clear hb1) | (go_at_call 68; refine (isDay_b HDY.out _).mono ?_; rintro e w2 ⟨hb2, rfl⟩; have HB2 : Hid (Below w.heap.size w w2) := Lib.hid (HB1.out.trans (hb2.mono HB1.out.size)); clear hb2) | (go_at_call 42; refine (PL.out _ HB2.out).mono ?_; rintro e w3 ⟨hb3, v, rfl, hown⟩; obtain ⟨A1, c1, rfl, hr⟩ := tx_own hown HNL.out; have H : Hid (∀ w', Below w3.heap.size w3 w' → Rws tx 1 w' w3.heap.size A1 N c1 P) := Lib.hid (fun w' hb => hr.below hb (Nat.le_refl _) (Nat.le_refl _)); have HBW : Hid (Below w.heap.size w w3) := Lib.hid (HB2.out.trans (hb3.mono HB2.out.size)); have hcap1 := hr.cap; have hmax1 := hr.max; clear hown hr hb3))
  go_loopw [9, 11, 23] (fun v _ i wr => ∃ k : Nat, k ≤ N ∧ i = .int .i64 k ∧ (∃ F : List Tx, Hid ((P.take k).filter pr = F) ∧ wr.ownsRow w3.heap.size 9 1 v F.length (Ss F)) ∧ Below w3.heap.size w3 wr) (fun _ _ i _ => N - (intOf i).toNat)
  case atStart => exact ⟨0, Nat.zero_le _, rfl, ⟨[], Lib.hid rfl, World.ownsRow_nil _ _ _ _⟩, Below.refl _ _⟩
  case round =>
    obtain ⟨k, hk, rfl, ⟨F, HF, hown⟩, hb⟩ := hrel
    have HB := Lib.hid hb
    have HOWN := Lib.hid hown
    have ow := hb.size
    have hfl : F.length ≤ 400 := by
      have := List.length_filter_le pr (P.take k)
      rw [HF.out, List.length_take] at this
      omega
    clear hown
    by_cases hlt : k < N
    · obtain ⟨b, o, t, rfl, hbb, hx, hc⟩ := (H.out _ hb).tx hlt
      have ob : b < wr.heap.size := by omega
      have HTM : Hid (t ∈ P) := Lib.hid (List.mem_of_getElem? hx)
      have HT : Hid ((P.take (k + 1)).filter pr = F ++ if pr t = true then [t] else []) := Lib.hid (by
        rw [take_step hx, List.filter_append, HF.out]
        by_cases hd : pr t = true <;> simp [hd])
      clear hx hb
      obtain ⟨u, hu⟩ : ∃ u, pr t = u := ⟨_, rfl⟩
      have hv : iS (X0 t) (X1 t) (X2 t) (X3 t) (X4 t) = u := (HPR.out t).symm.trans hu
      rw [hu] at HT
      clear hu
      cases u
      · go_wp2_with (first | (go_at_call 48; refine (AG.out t HTM.out _ (by have hb0 := HBW.out.trans (HB.out.mono HBW.out.size); exact (by repeat (first | with_reducible exact Below.refl _ _ | with_reducible assumption | with_reducible refine Below.drew ?_ | with_reducible refine Below.drewN ?_ _ | with_reducible refine Below.alloc2 ?_ _ | with_reducible refine Below.alloc ?_ (by first | omega | (simp <;> omega)) _ | with_reducible refine Below.setCell ?_ (by first | omega | (simp <;> omega)) _ | with_reducible refine Below.step2 (by with_reducible assumption) ?_ | with_reducible refine Below.step (by with_reducible assumption) ?_ (by first | omega | (simp <;> omega)))))).mono ?_; rintro e w4 ⟨hb4, rfl⟩; have HB4 : Hid (Below w3.heap.size w3 w4) := Lib.hid (by have hb0 := HB.out; refine Below.trans ?_ (hb4.mono ?_); (exact (by repeat (first | with_reducible exact Below.refl _ _ | with_reducible assumption | with_reducible refine Below.drew ?_ | with_reducible refine Below.drewN ?_ _ | with_reducible refine Below.alloc2 ?_ _ | with_reducible refine Below.alloc ?_ (by first | omega | (simp <;> omega)) _ | with_reducible refine Below.setCell ?_ (by first | omega | (simp <;> omega)) _ | with_reducible refine Below.step2 (by with_reducible assumption) ?_ | with_reducible refine Below.step (by with_reducible assumption) ?_ (by first | omega | (simp <;> omega))))); (first | omega | (simp; omega))); have HOA := Lib.hid (own_step HOWN.out hb4); clear hb4) | (go_at_call 58; refine (IS.out _ _ _ _ _ _).mono ?_; rintro e w5 ⟨hb5, rfl⟩; have HB5 : Hid (Below w3.heap.size w3 w5) := Lib.hid (HB4.out.trans (hb5.mono HB4.out.size)); have HO5 := Lib.hid (own_step HOA.out hb5); have ob5 := HB5.out.size; clear hb5))
        go_roundw
        case rel => exact ⟨k + 1, by omega, by go_num, ⟨F, Lib.hid (HT.out.trans (by simp)), HO5.out⟩, HB5.out⟩
        case measure => simp [intOf]; omega
      · go_wp2_with (first | (go_at_call 48; refine (AG.out t HTM.out _ (by have hb0 := HBW.out.trans (HB.out.mono HBW.out.size); exact (by repeat (first | with_reducible exact Below.refl _ _ | with_reducible assumption | with_reducible refine Below.drew ?_ | with_reducible refine Below.drewN ?_ _ | with_reducible refine Below.alloc2 ?_ _ | with_reducible refine Below.alloc ?_ (by first | omega | (simp <;> omega)) _ | with_reducible refine Below.setCell ?_ (by first | omega | (simp <;> omega)) _ | with_reducible refine Below.step2 (by with_reducible assumption) ?_ | with_reducible refine Below.step (by with_reducible assumption) ?_ (by first | omega | (simp <;> omega)))))).mono ?_; rintro e w4 ⟨hb4, rfl⟩; have HB4 : Hid (Below w3.heap.size w3 w4) := Lib.hid (by have hb0 := HB.out; refine Below.trans ?_ (hb4.mono ?_); (exact (by repeat (first | with_reducible exact Below.refl _ _ | with_reducible assumption | with_reducible refine Below.drew ?_ | with_reducible refine Below.drewN ?_ _ | with_reducible refine Below.alloc2 ?_ _ | with_reducible refine Below.alloc ?_ (by first | omega | (simp <;> omega)) _ | with_reducible refine Below.setCell ?_ (by first | omega | (simp <;> omega)) _ | with_reducible refine Below.step2 (by with_reducible assumption) ?_ | with_reducible refine Below.step (by with_reducible assumption) ?_ (by first | omega | (simp <;> omega))))); (first | omega | (simp; omega))); have HOA := Lib.hid (own_step HOWN.out hb4); clear hb4) | (go_at_call 58; refine (IS.out _ _ _ _ _ _).mono ?_; rintro e w5 ⟨hb5, rfl⟩; have HB5 : Hid (Below w3.heap.size w3 w5) := Lib.hid (HB4.out.trans (hb5.mono HB4.out.size)); have HO5 := Lib.hid (own_step HOA.out hb5); have ob5 := HB5.out.size; clear hb5) | (at_builtin; go_loud (refine app_s (W := F) (base := w3.heap.size) ?_ rfl _ _ rfl rfl t _ rfl ?_ (by omega) ?_ ?_; (exact own_step HO5.out (by exact (by repeat (first | with_reducible exact Below.refl _ _ | with_reducible assumption | with_reducible refine Below.drew ?_ | with_reducible refine Below.drewN ?_ _ | with_reducible refine Below.alloc2 ?_ _ | with_reducible refine Below.alloc ?_ (by first | omega | (simp <;> omega)) _ | with_reducible refine Below.setCell ?_ (by first | omega | (simp <;> omega)) _ | with_reducible refine Below.step2 (by with_reducible assumption) ?_ | with_reducible refine Below.step (by with_reducible assumption) ?_ (by first | omega | (simp <;> omega)))))); (focus (show Bk _ _ _ #[.string ⟨t.toArray⟩]; exact (by repeat (first | with_reducible assumption | with_reducible exact Bk.at_ (by first | (simp; done) | omega) | with_reducible refine Bk.alloc ?_ _ | with_reducible refine Bk.drew ?_ | with_reducible refine Bk.drewN ?_ _ | with_reducible refine Bk.step (by with_reducible assumption) ?_ (by first | omega | (simp <;> omega)))))); (focus (have := HB5.out.size; first | (simp; done) | (simp; omega) | omega)); intro v6 w6 ho6 hg6; have HO6 := Lib.hid ho6; have HB6 : Hid (Below w3.heap.size w3 w6) := Lib.hid (Below.grown_ (by have hb0 := HB5.out; exact (by repeat (first | with_reducible exact Below.refl _ _ | with_reducible assumption | with_reducible refine Below.drew ?_ | with_reducible refine Below.drewN ?_ _ | with_reducible refine Below.alloc2 ?_ _ | with_reducible refine Below.alloc ?_ (by first | omega | (simp <;> omega)) _ | with_reducible refine Below.setCell ?_ (by first | omega | (simp <;> omega)) _ | with_reducible refine Below.step2 (by with_reducible assumption) ?_ | with_reducible refine Below.step (by with_reducible assumption) ?_ (by first | omega | (simp <;> omega))))) hg6 (by have := HB5.out.size; first | (simp; done) | (simp; omega) | omega) (fun q hq => (HO5.out.lt q hq).1)); clear ho6 hg6)))
        go_roundw
        case rel => exact ⟨k + 1, by omega, by go_num, ⟨_, Lib.hid HT.out, HO6.out⟩, HB6.out⟩
        case measure => simp [intOf]; omega
    · obtain rfl : k = N := by omega
      have hFF : P.filter pr = F := by have := HF.out; rwa [List.take_of_length_le (by rw [HNL.out]; omega)] at this
      have HFF := Lib.hid hFF
      clear hFF hb
      go_wp2
      go_ret2
      exact ⟨HBW.out.trans (HB.out.mono HBW.out.size), _, rfl, by rw [HFF.out]; exact own_base HOWN.out HBW.out.size⟩
set_option maxHeartbeats 4000000 in
theorem thatRel_bad (A : Option Addr) (n c : Nat) (l : List Ev) (day : Int) (w : World) (h : Rws Ev.cs 6 w w.heap.size A n c l) (hs : n ≤ 400 → ∀ x ∈ l, x.p.size ≤ 30) (ho : ∀ x ∈ l, evOk x) (E : Int) (hE : dyErr l day = E) (h0 : E ≠ 0) :
    Calls Try.prog 57 #[.slice A n c, .int .i64 day, .func (.func 59) #[] #[]] w fun e w' => Below w.heap.size w w' ∧ e = .returned (.tuple #[.slice none 0 0, .int .i64 E]) := by
  obtain ⟨T, hT⟩ : ∃ T, recErr l = T := ⟨_, rfl⟩
  have CR : Hid (∀ W, Below w.heap.size w W → Calls Try.prog 15 #[.slice A n c] W fun e w' => Below W.heap.size W w' ∧ e = .returned (.int .i64 T)) := Lib.hid fun W hW => by
    have := checkRec_all A n c l W (h.below hW (Nat.le_refl _) hW.size) hs ho
    rwa [hT] at this
  unfold dyErr at hE
  rw [hT] at hE
  clear h hs ho hT
  by_cases hT0 : T = 0
  · rw [if_pos hT0] at hE
    obtain ⟨v, hv⟩ : ∃ v, dayB day = v := ⟨_, rfl⟩
    have HDY := Lib.hid hv
    rw [hv] at hE
    cases v
    · obtain rfl : E = 2 := by simpa using hE.symm
      subst hT0
      clear hE h0 hv
      go_enter Try.func57, Try.ntmps57
      go_wp2_with (first | (go_at_call 15; refine (CR.out _ (by exact (by repeat (first | with_reducible exact Below.refl _ _ | with_reducible assumption | with_reducible refine Below.drew ?_ | with_reducible refine Below.drewN ?_ _ | with_reducible refine Below.alloc2 ?_ _ | with_reducible refine Below.alloc ?_ (by first | omega | (simp <;> omega)) _ | with_reducible refine Below.setCell ?_ (by first | omega | (simp <;> omega)) _ | with_reducible refine Below.step2 (by with_reducible assumption) ?_ | with_reducible refine Below.step (by with_reducible assumption) ?_ (by first | omega | (simp <;> omega)))))).mono ?_; rintro e w1 ⟨hb1, rfl⟩; have HB1 : Hid (Below w.heap.size w w1) := Lib.hid (Below.trans (by exact (by repeat (first | with_reducible exact Below.refl _ _ | with_reducible assumption | with_reducible refine Below.drew ?_ | with_reducible refine Below.drewN ?_ _ | with_reducible refine Below.alloc2 ?_ _ | with_reducible refine Below.alloc ?_ (by first | omega | (simp <;> omega)) _ | with_reducible refine Below.setCell ?_ (by first | omega | (simp <;> omega)) _ | with_reducible refine Below.step2 (by with_reducible assumption) ?_ | with_reducible refine Below.step (by with_reducible assumption) ?_ (by first | omega | (simp <;> omega))))) (hb1.mono (by simp))); clear hb1) | (go_at_call 68; refine (isDay_b HDY.out _).mono ?_; rintro e w2 ⟨hb2, rfl⟩; have HB2 : Hid (Below w.heap.size w w2) := Lib.hid (HB1.out.trans (hb2.mono HB1.out.size)); clear hb2))
      go_ret2
      exact ⟨HB2.out, rfl⟩
    · exact absurd hE.symm h0
  · obtain rfl : T = E := by rwa [if_neg hT0] at hE
    have h0b : (T != 0) = true := by simpa using h0
    clear hE h0 hT0
    go_enter Try.func57, Try.ntmps57
    go_wp2_with (go_at_call 15; refine (CR.out _ (by exact (by repeat (first | with_reducible exact Below.refl _ _ | with_reducible assumption | with_reducible refine Below.drew ?_ | with_reducible refine Below.drewN ?_ _ | with_reducible refine Below.alloc2 ?_ _ | with_reducible refine Below.alloc ?_ (by first | omega | (simp <;> omega)) _ | with_reducible refine Below.setCell ?_ (by first | omega | (simp <;> omega)) _ | with_reducible refine Below.step2 (by with_reducible assumption) ?_ | with_reducible refine Below.step (by with_reducible assumption) ?_ (by first | omega | (simp <;> omega)))))).mono ?_; rintro e w1 ⟨hb1, rfl⟩; have HB1 : Hid (Below w.heap.size w w1) := Lib.hid (Below.trans (by exact (by repeat (first | with_reducible exact Below.refl _ _ | with_reducible assumption | with_reducible refine Below.drew ?_ | with_reducible refine Below.drewN ?_ _ | with_reducible refine Below.alloc2 ?_ _ | with_reducible refine Below.alloc ?_ (by first | omega | (simp <;> omega)) _ | with_reducible refine Below.setCell ?_ (by first | omega | (simp <;> omega)) _ | with_reducible refine Below.step2 (by with_reducible assumption) ?_ | with_reducible refine Below.step (by with_reducible assumption) ?_ (by first | omega | (simp <;> omega))))) (hb1.mono (by simp))); clear hb1)
    go_ret2
    exact ⟨HB1.out, rfl⟩
set_option maxRecDepth 100000 in
set_option maxHeartbeats 8000000 in
theorem thatRel_ok (A : Option Addr) (n c : Nat) (l : List Ev) (day : Int) (w : World) (h : Rws Ev.cs 6 w w.heap.size A n c l) (hs : ∀ x ∈ l, x.p.size ≤ 30) (ho : ∀ x ∈ l, evOk x) (hE : recErr l = 0) (hdy : dayB day = true) (iS : Bool → Bool → Bool → Bool → Bool → Bool)
    (IS : Hid (∀ b0 b1 b2 b3 b4 W, Calls Try.prog 59 #[.agg #[.bool b0, .bool b1, .bool b2, .bool b3, .bool b4]] W fun e w' => Below W.heap.size W w' ∧ e = .returned (.bool (iS b0 b1 b2 b3 b4)))) (pr : Tx → Bool)
    (hpr : ∀ t, pr t = iS (rB0 (l.filter (upF day)) ⟨t.toArray⟩) (rB1 (l.filter (upF day)) ⟨t.toArray⟩) (!freshB (l.filter (upF day)) ⟨t.toArray⟩ day) (decide (0 < (olistG true (l.filter (upF day)) ⟨t.toArray⟩).length)) (decide (0 < (olistG false (l.filter (upF day)) ⟨t.toArray⟩).length))) :
    Calls Try.prog 57 #[.slice A n c, .int .i64 day, .func (.func 59) #[] #[]] w fun e w' => Below w.heap.size w w' ∧ ∃ v, e = .returned (.tuple #[v, .int .i64 0]) ∧ w'.ownsRow w.heap.size 9 1 v ((platsR l).filter pr).length (Ss ((platsR l).filter pr)) := by
  have hn := recErr_small hE
  rw [h.len] at hn
  have CR : Hid (∀ W, Below w.heap.size w W → Calls Try.prog 15 #[.slice A n c] W fun e w' => Below W.heap.size W w' ∧ e = .returned (.int .i64 0)) := Lib.hid fun W hW => by
    have := checkRec_all A n c l W (h.below hW (Nat.le_refl _) hW.size) (fun _ => hs) ho
    rwa [hE] at this
  have HDY := Lib.hid hdy
  have PL : Hid (∀ W, Below w.heap.size w W → Calls Try.prog 42 #[.slice A n c] W fun e w' => Below W.heap.size W w' ∧ ∃ v, e = .returned v ∧ w'.ownsRow W.heap.size 9 1 v (platsR l).length (Ss (platsR l))) := Lib.hid fun W hW => by
    have := platformsOf_any A n c l W (h.below hW (Nat.le_refl _) hW.size) (by omega)
    rwa [plats_same hE] at this
  have hRL : (platsR l).length ≤ 400 := by
    have := platsR_len l n
    rw [List.take_of_length_le (by rw [h.len]; omega)] at this
    omega
  have AG : Hid (∀ t : Tx, t ∈ platsR l → ∀ W, Below w.heap.size w W → Calls Try.prog 48 #[.slice A n c, .string ⟨t.toArray⟩, .int .i64 day] W fun e w' => Below W.heap.size W w' ∧ e = .returned (agV (l.filter (upF day)) ⟨t.toArray⟩ day)) := Lib.hid fun t ht W hW => by
    obtain ⟨t0, x, hx, e⟩ := platsR_ne ht
    have hz := ba_of e
    rw [hz]
    refine against_rec A n c l _ day W (h.below hW (Nat.le_refl _) hW.size) hs ho hE ?_ (hs x hx)
    intro hz2
    exact t0 (e ▸ size_nil hz2)
  obtain ⟨X0, hX0⟩ : ∃ X : Tx → Bool, ∀ t, X t = rB0 (l.filter (upF day)) ⟨t.toArray⟩ := ⟨_, fun _ => rfl⟩
  obtain ⟨X1, hX1⟩ : ∃ X : Tx → Bool, ∀ t, X t = rB1 (l.filter (upF day)) ⟨t.toArray⟩ := ⟨_, fun _ => rfl⟩
  obtain ⟨X2, hX2⟩ : ∃ X : Tx → Bool, ∀ t, X t = !freshB (l.filter (upF day)) ⟨t.toArray⟩ day := ⟨_, fun _ => rfl⟩
  obtain ⟨X3, hX3⟩ : ∃ X : Tx → Bool, ∀ t, X t = decide (0 < (olistG true (l.filter (upF day)) ⟨t.toArray⟩).length) := ⟨_, fun _ => rfl⟩
  obtain ⟨X4, hX4⟩ : ∃ X : Tx → Bool, ∀ t, X t = decide (0 < (olistG false (l.filter (upF day)) ⟨t.toArray⟩).length) := ⟨_, fun _ => rfl⟩
  unfold agV at AG
  simp only [← hX0, ← hX1, ← hX2, ← hX3, ← hX4] at AG hpr
  have HPR := Lib.hid hpr
  generalize platsR l = P at PL hRL AG ⊢
  clear h hs ho hE hdy hX0 hX1 hX2 hX3 hX4 hpr
  obtain ⟨N, hN⟩ : ∃ N, P.length = N := ⟨_, rfl⟩
  rw [hN] at PL hRL
  have HNL := Lib.hid hN
  clear hN
  go_enter Try.func57, Try.ntmps57
  go_wp2_with (first | (go_at_call 15; refine (CR.out _ (by exact (by repeat (first | with_reducible exact Below.refl _ _ | with_reducible assumption | with_reducible refine Below.drew ?_ | with_reducible refine Below.drewN ?_ _ | with_reducible refine Below.alloc2 ?_ _ | with_reducible refine Below.alloc ?_ (by first | omega | (simp <;> omega)) _ | with_reducible refine Below.setCell ?_ (by first | omega | (simp <;> omega)) _ | with_reducible refine Below.step2 (by with_reducible assumption) ?_ | with_reducible refine Below.step (by with_reducible assumption) ?_ (by first | omega | (simp <;> omega)))))).mono ?_; rintro e w1 ⟨hb1, rfl⟩; have HB1 : Hid (Below w.heap.size w w1) := Lib.hid (Below.trans (by exact (by repeat (first | with_reducible exact Below.refl _ _ | with_reducible assumption | with_reducible refine Below.drew ?_ | with_reducible refine Below.drewN ?_ _ | with_reducible refine Below.alloc2 ?_ _ | with_reducible refine Below.alloc ?_ (by first | omega | (simp <;> omega)) _ | with_reducible refine Below.setCell ?_ (by first | omega | (simp <;> omega)) _ | with_reducible refine Below.step2 (by with_reducible assumption) ?_ | with_reducible refine Below.step (by with_reducible assumption) ?_ (by first | omega | (simp <;> omega))))) (hb1.mono (by simp))); clear hb1) | (go_at_call 68; refine (isDay_b HDY.out _).mono ?_; rintro e w2 ⟨hb2, rfl⟩; have HB2 : Hid (Below w.heap.size w w2) := Lib.hid (HB1.out.trans (hb2.mono HB1.out.size)); clear hb2) | (go_at_call 42; refine (PL.out _ HB2.out).mono ?_; rintro e w3 ⟨hb3, v, rfl, hown⟩; obtain ⟨A1, c1, rfl, hr⟩ := tx_own hown HNL.out; have H : Hid (∀ w', Below w3.heap.size w3 w' → Rws tx 1 w' w3.heap.size A1 N c1 P) := Lib.hid (fun w' hb => hr.below hb (Nat.le_refl _) (Nat.le_refl _)); have HBW : Hid (Below w.heap.size w w3) := Lib.hid (HB2.out.trans (hb3.mono HB2.out.size)); have hcap1 := hr.cap; have hmax1 := hr.max; clear hown hr hb3))
  go_loopw [9, 11, 23] (fun v _ i wr => ∃ k : Nat, k ≤ N ∧ i = .int .i64 k ∧ (∃ F : List Tx, Hid ((P.take k).filter pr = F) ∧ wr.ownsRow w3.heap.size 9 1 v F.length (Ss F)) ∧ Below w3.heap.size w3 wr) (fun _ _ i _ => N - (intOf i).toNat)
  case atStart => exact ⟨0, Nat.zero_le _, rfl, ⟨[], Lib.hid rfl, World.ownsRow_nil _ _ _ _⟩, Below.refl _ _⟩
  case round =>
    obtain ⟨k, hk, rfl, ⟨F, HF, hown⟩, hb⟩ := hrel
    have HB := Lib.hid hb
    have HOWN := Lib.hid hown
    have ow := hb.size
    have hfl : F.length ≤ 400 := by
      have := List.length_filter_le pr (P.take k)
      rw [HF.out, List.length_take] at this
      omega
    clear hown
    by_cases hlt : k < N
    · obtain ⟨b, o, t, rfl, hbb, hx, hc⟩ := (H.out _ hb).tx hlt
      have ob : b < wr.heap.size := by omega
      have HTM : Hid (t ∈ P) := Lib.hid (List.mem_of_getElem? hx)
      have HT : Hid ((P.take (k + 1)).filter pr = F ++ if pr t = true then [t] else []) := Lib.hid (by
        rw [take_step hx, List.filter_append, HF.out]
        by_cases hd : pr t = true <;> simp [hd])
      clear hx hb
      obtain ⟨u, hu⟩ : ∃ u, pr t = u := ⟨_, rfl⟩
      have hv : iS (X0 t) (X1 t) (X2 t) (X3 t) (X4 t) = u := (HPR.out t).symm.trans hu
      rw [hu] at HT
      clear hu
      cases u
      · go_wp2_with (first | (go_at_call 48; refine (AG.out t HTM.out _ (by have hb0 := HBW.out.trans (HB.out.mono HBW.out.size); exact (by repeat (first | with_reducible exact Below.refl _ _ | with_reducible assumption | with_reducible refine Below.drew ?_ | with_reducible refine Below.drewN ?_ _ | with_reducible refine Below.alloc2 ?_ _ | with_reducible refine Below.alloc ?_ (by first | omega | (simp <;> omega)) _ | with_reducible refine Below.setCell ?_ (by first | omega | (simp <;> omega)) _ | with_reducible refine Below.step2 (by with_reducible assumption) ?_ | with_reducible refine Below.step (by with_reducible assumption) ?_ (by first | omega | (simp <;> omega)))))).mono ?_; rintro e w4 ⟨hb4, rfl⟩; have HB4 : Hid (Below w3.heap.size w3 w4) := Lib.hid (by have hb0 := HB.out; refine Below.trans ?_ (hb4.mono ?_); (exact (by repeat (first | with_reducible exact Below.refl _ _ | with_reducible assumption | with_reducible refine Below.drew ?_ | with_reducible refine Below.drewN ?_ _ | with_reducible refine Below.alloc2 ?_ _ | with_reducible refine Below.alloc ?_ (by first | omega | (simp <;> omega)) _ | with_reducible refine Below.setCell ?_ (by first | omega | (simp <;> omega)) _ | with_reducible refine Below.step2 (by with_reducible assumption) ?_ | with_reducible refine Below.step (by with_reducible assumption) ?_ (by first | omega | (simp <;> omega))))); (first | omega | (simp; omega))); have HOA := Lib.hid (own_step HOWN.out hb4); clear hb4) | (go_at_call 59; refine (IS.out _ _ _ _ _ _).mono ?_; rintro e w5 ⟨hb5, rfl⟩; have HB5 : Hid (Below w3.heap.size w3 w5) := Lib.hid (HB4.out.trans (hb5.mono HB4.out.size)); have HO5 := Lib.hid (own_step HOA.out hb5); have ob5 := HB5.out.size; clear hb5))
        go_roundw
        case rel => exact ⟨k + 1, by omega, by go_num, ⟨F, Lib.hid (HT.out.trans (by simp)), HO5.out⟩, HB5.out⟩
        case measure => simp [intOf]; omega
      · go_wp2_with (first | (go_at_call 48; refine (AG.out t HTM.out _ (by have hb0 := HBW.out.trans (HB.out.mono HBW.out.size); exact (by repeat (first | with_reducible exact Below.refl _ _ | with_reducible assumption | with_reducible refine Below.drew ?_ | with_reducible refine Below.drewN ?_ _ | with_reducible refine Below.alloc2 ?_ _ | with_reducible refine Below.alloc ?_ (by first | omega | (simp <;> omega)) _ | with_reducible refine Below.setCell ?_ (by first | omega | (simp <;> omega)) _ | with_reducible refine Below.step2 (by with_reducible assumption) ?_ | with_reducible refine Below.step (by with_reducible assumption) ?_ (by first | omega | (simp <;> omega)))))).mono ?_; rintro e w4 ⟨hb4, rfl⟩; have HB4 : Hid (Below w3.heap.size w3 w4) := Lib.hid (by have hb0 := HB.out; refine Below.trans ?_ (hb4.mono ?_); (exact (by repeat (first | with_reducible exact Below.refl _ _ | with_reducible assumption | with_reducible refine Below.drew ?_ | with_reducible refine Below.drewN ?_ _ | with_reducible refine Below.alloc2 ?_ _ | with_reducible refine Below.alloc ?_ (by first | omega | (simp <;> omega)) _ | with_reducible refine Below.setCell ?_ (by first | omega | (simp <;> omega)) _ | with_reducible refine Below.step2 (by with_reducible assumption) ?_ | with_reducible refine Below.step (by with_reducible assumption) ?_ (by first | omega | (simp <;> omega))))); (first | omega | (simp; omega))); have HOA := Lib.hid (own_step HOWN.out hb4); clear hb4) | (go_at_call 59; refine (IS.out _ _ _ _ _ _).mono ?_; rintro e w5 ⟨hb5, rfl⟩; have HB5 : Hid (Below w3.heap.size w3 w5) := Lib.hid (HB4.out.trans (hb5.mono HB4.out.size)); have HO5 := Lib.hid (own_step HOA.out hb5); have ob5 := HB5.out.size; clear hb5) | (at_builtin; go_loud (refine app_s (W := F) (base := w3.heap.size) ?_ rfl _ _ rfl rfl t _ rfl ?_ (by omega) ?_ ?_; (exact own_step HO5.out (by exact (by repeat (first | with_reducible exact Below.refl _ _ | with_reducible assumption | with_reducible refine Below.drew ?_ | with_reducible refine Below.drewN ?_ _ | with_reducible refine Below.alloc2 ?_ _ | with_reducible refine Below.alloc ?_ (by first | omega | (simp <;> omega)) _ | with_reducible refine Below.setCell ?_ (by first | omega | (simp <;> omega)) _ | with_reducible refine Below.step2 (by with_reducible assumption) ?_ | with_reducible refine Below.step (by with_reducible assumption) ?_ (by first | omega | (simp <;> omega)))))); (focus (show Bk _ _ _ #[.string ⟨t.toArray⟩]; exact (by repeat (first | with_reducible assumption | with_reducible exact Bk.at_ (by first | (simp; done) | omega) | with_reducible refine Bk.alloc ?_ _ | with_reducible refine Bk.drew ?_ | with_reducible refine Bk.drewN ?_ _ | with_reducible refine Bk.step (by with_reducible assumption) ?_ (by first | omega | (simp <;> omega)))))); (focus (have := HB5.out.size; first | (simp; done) | (simp; omega) | omega)); intro v6 w6 ho6 hg6; have HO6 := Lib.hid ho6; have HB6 : Hid (Below w3.heap.size w3 w6) := Lib.hid (Below.grown_ (by have hb0 := HB5.out; exact (by repeat (first | with_reducible exact Below.refl _ _ | with_reducible assumption | with_reducible refine Below.drew ?_ | with_reducible refine Below.drewN ?_ _ | with_reducible refine Below.alloc2 ?_ _ | with_reducible refine Below.alloc ?_ (by first | omega | (simp <;> omega)) _ | with_reducible refine Below.setCell ?_ (by first | omega | (simp <;> omega)) _ | with_reducible refine Below.step2 (by with_reducible assumption) ?_ | with_reducible refine Below.step (by with_reducible assumption) ?_ (by first | omega | (simp <;> omega))))) hg6 (by have := HB5.out.size; first | (simp; done) | (simp; omega) | omega) (fun q hq => (HO5.out.lt q hq).1)); clear ho6 hg6)))
        go_roundw
        case rel => exact ⟨k + 1, by omega, by go_num, ⟨_, Lib.hid HT.out, HO6.out⟩, HB6.out⟩
        case measure => simp [intOf]; omega
    · obtain rfl : k = N := by omega
      have hFF : P.filter pr = F := by have := HF.out; rwa [List.take_of_length_le (by rw [HNL.out]; omega)] at this
      have HFF := Lib.hid hFF
      clear hFF hb
      go_wp2
      go_ret2
      exact ⟨HBW.out.trans (HB.out.mono HBW.out.size), _, rfl, by rw [HFF.out]; exact own_base HOWN.out HBW.out.size⟩

end Go.Proofs.Ytgjjjnofdjhikaa

/- Chapter 9, walks: Due and Released of the program, as the reference has them. -/
namespace Go.Proofs.Ytgjjjnofdjhikaa
open Go.RowKit Go.Maps

theorem relR_rs (b0 b1 b2 b3 b4 : Bool) : (tagR (rs b0 b1 b2 b3 b4) == 2) = decide (tagB b0 b1 b2 b3 b4 = 2) := by
  rw [tagR_rs, Bool.eq_iff_iff]
  simp
set_option maxHeartbeats 4000000 in
theorem due_bad (A : Option Addr) (n c : Nat) (l : List Ev) (day : Int) (w : World) (h : Rws Ev.cs 6 w w.heap.size A n c l) (hs : n ≤ 400 → ∀ x ∈ l, x.p.size ≤ 30) (ho : ∀ x ∈ l, evOk x) (E : Int) (hE : dyErr l day = E) (h0 : E ≠ 0) :
    Calls Try.prog 31 #[.slice A n c, .int .i64 day] w fun e w' => Below w.heap.size w w' ∧ e = .returned (.tuple #[.slice none 0 0, .int .i64 E]) := by
  have TH : Hid (Calls Try.prog 57 #[.slice A n c, .int .i64 day, .func (.func 58) #[] #[]] w fun e w' => Below w.heap.size w w' ∧ e = .returned (.tuple #[.slice none 0 0, .int .i64 E])) := Lib.hid (thatDue_bad A n c l day w h hs ho E hE h0)
  clear h hs ho hE h0
  go_enter Try.func31, Try.ntmps31
  go_wp2_with (go_at_call 57; refine TH.out.mono ?_; rintro e w1 ⟨hb1, rfl⟩; have HB1 := Lib.hid hb1; clear hb1)
  go_ret2
  exact ⟨HB1.out, rfl⟩
set_option maxHeartbeats 4000000 in
theorem due_ok (A : Option Addr) (n c : Nat) (l : List Ev) (day : Int) (w : World) (h : Rws Ev.cs 6 w w.heap.size A n c l) (hs : ∀ x ∈ l, x.p.size ≤ 30) (ho : ∀ x ∈ l, evOk x) (hE : recErr l = 0) (hdy : dayB day = true) :
    Calls Try.prog 31 #[.slice A n c, .int .i64 day] w fun e w' => Below w.heap.size w w' ∧ ∃ v, e = .returned (.tuple #[v, .int .i64 0]) ∧ w'.ownsRow w.heap.size 9 1 v (dueL l day).length (Ss (dueL l day)) := by
  have TH : Hid (Calls Try.prog 57 #[.slice A n c, .int .i64 day, .func (.func 58) #[] #[]] w fun e w' => Below w.heap.size w w' ∧ ∃ v, e = .returned (.tuple #[v, .int .i64 0]) ∧ w'.ownsRow w.heap.size 9 1 v (dueL l day).length (Ss (dueL l day))) := Lib.hid (thatDue_ok A n c l day w h hs ho hE hdy _ (Lib.hid due1_any) _ fun t => dueR_rs _ _ _ _ _)
  generalize dueL l day = R at TH ⊢
  clear h hs ho hE hdy
  go_enter Try.func31, Try.ntmps31
  go_wp2_with (go_at_call 57; refine TH.out.mono ?_; rintro e w1 ⟨hb1, v, rfl, hown⟩; have HB1 := Lib.hid hb1; have HO1 := Lib.hid hown; clear hb1 hown)
  go_ret2
  exact ⟨HB1.out, _, rfl, HO1.out⟩
set_option maxHeartbeats 4000000 in
theorem rel_bad (A : Option Addr) (n c : Nat) (l : List Ev) (day : Int) (w : World) (h : Rws Ev.cs 6 w w.heap.size A n c l) (hs : n ≤ 400 → ∀ x ∈ l, x.p.size ≤ 30) (ho : ∀ x ∈ l, evOk x) (E : Int) (hE : dyErr l day = E) (h0 : E ≠ 0) :
    Calls Try.prog 32 #[.slice A n c, .int .i64 day] w fun e w' => Below w.heap.size w w' ∧ e = .returned (.tuple #[.slice none 0 0, .int .i64 E]) := by
  have TH : Hid (Calls Try.prog 57 #[.slice A n c, .int .i64 day, .func (.func 59) #[] #[]] w fun e w' => Below w.heap.size w w' ∧ e = .returned (.tuple #[.slice none 0 0, .int .i64 E])) := Lib.hid (thatRel_bad A n c l day w h hs ho E hE h0)
  clear h hs ho hE h0
  go_enter Try.func32, Try.ntmps32
  go_wp2_with (go_at_call 57; refine TH.out.mono ?_; rintro e w1 ⟨hb1, rfl⟩; have HB1 := Lib.hid hb1; clear hb1)
  go_ret2
  exact ⟨HB1.out, rfl⟩
set_option maxHeartbeats 4000000 in
theorem rel_ok (A : Option Addr) (n c : Nat) (l : List Ev) (day : Int) (w : World) (h : Rws Ev.cs 6 w w.heap.size A n c l) (hs : ∀ x ∈ l, x.p.size ≤ 30) (ho : ∀ x ∈ l, evOk x) (hE : recErr l = 0) (hdy : dayB day = true) :
    Calls Try.prog 32 #[.slice A n c, .int .i64 day] w fun e w' => Below w.heap.size w w' ∧ ∃ v, e = .returned (.tuple #[v, .int .i64 0]) ∧ w'.ownsRow w.heap.size 9 1 v (relL l day).length (Ss (relL l day)) := by
  have TH : Hid (Calls Try.prog 57 #[.slice A n c, .int .i64 day, .func (.func 59) #[] #[]] w fun e w' => Below w.heap.size w w' ∧ ∃ v, e = .returned (.tuple #[v, .int .i64 0]) ∧ w'.ownsRow w.heap.size 9 1 v (relL l day).length (Ss (relL l day))) := Lib.hid (thatRel_ok A n c l day w h hs ho hE hdy _ (Lib.hid rel1_any) _ fun t => relR_rs _ _ _ _ _)
  generalize relL l day = R at TH ⊢
  clear h hs ho hE hdy
  go_enter Try.func32, Try.ntmps32
  go_wp2_with (go_at_call 57; refine TH.out.mono ?_; rintro e w1 ⟨hb1, v, rfl, hown⟩; have HB1 := Lib.hid hb1; have HO1 := Lib.hid hown; clear hb1 hown)
  go_ret2
  exact ⟨HB1.out, _, rfl, HO1.out⟩

end Go.Proofs.Ytgjjjnofdjhikaa
