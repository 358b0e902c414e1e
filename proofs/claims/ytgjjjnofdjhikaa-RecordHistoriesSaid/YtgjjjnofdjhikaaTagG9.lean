/- Several texts in one. -/
import Derived.Test.YtgjjjnofdjhikaaDueG9
/- Chapter 9, walks: platformError and questionError of the program. -/
namespace Go.Proofs.Ytgjjjnofdjhikaa
open Go.RowKit Go.Maps

theorem contains_any (A : Option Addr) (n c B : Nat) (l : List Tx) (p : ByteArray) (w : World) (h : Rws tx 1 w B A n c l) :
    Calls Try.prog 75 #[.slice A n c, .string p] w fun e w' => w = w' ∧ e = .returned (.bool (decide (p.data.toList ∈ l))) := by
  have hlen := h.len
  rcases Nat.eq_zero_or_pos n with rfl | hn
  · refine (Try.slices_Contains_string_empty A c p w).mono ?_
    rintro e w' ⟨rfl, rfl⟩
    obtain rfl : l = [] := List.eq_nil_of_length_eq_zero hlen
    exact ⟨rfl, by simp⟩
  · obtain ⟨b, o, x, rfl, -⟩ := h.tx hn
    have hz : ∀ j, j < n → w.cell? ⟨b, o + j, none⟩ = some (.string ((l.map fun t => (⟨t.toArray⟩ : ByteArray)).getD j ByteArray.empty)) := fun j hj => by
      obtain ⟨b', o', y, e, -, hy, hc⟩ := h.tx hj
      obtain ⟨rfl, rfl⟩ : b = b' ∧ o = o' := by simpa using e
      rw [hc]
      simp [List.getD, hy]
    refine (Try.slices_Contains_string b o n c (l.map fun t => (⟨t.toArray⟩ : ByteArray)) p w (by simp [hlen]) (by have := h.cap; have := h.max; omega) (fun j hj => hz j (by simpa [hlen] using hj))).mono ?_
    rintro e w' ⟨rfl, rfl⟩
    refine ⟨rfl, ret_bool ?_⟩
    rw [List.take_of_length_le (by simp [hlen]), Bool.eq_iff_iff, Lib.containsS_iff, decide_eq_true_iff, List.mem_map]
    constructor
    · rintro ⟨t, ht, rfl⟩
      exact ht
    · intro hp
      exact ⟨_, hp, ba_of rfl⟩
/-- The error of a record and of a question. -/
def inPl (l : List Ev) (p : ByteArray) : Bool := decide (p.data.toList ∈ platsR l)
def qErr (l : List Ev) (p : ByteArray) (day : Int) : Int := if recErr l = 0 then (if dayB day then (if inPl l p then 0 else 6) else 2) else recErr l
set_option maxHeartbeats 4000000 in
theorem platformError_any (A : Option Addr) (n c : Nat) (l : List Ev) (p : ByteArray) (w : World) (h : Rws Ev.cs 6 w w.heap.size A n c l) (hE : recErr l = 0) :
    Calls Try.prog 55 #[.slice A n c, .string p] w fun e w' => Below w.heap.size w w' ∧ e = .returned (.int .i64 (if inPl l p then 0 else 6)) := by
  have hn := recErr_small hE
  rw [h.len] at hn
  have PL : Hid (Calls Try.prog 42 #[.slice A n c] w fun e w' => Below w.heap.size w w' ∧ ∃ v, e = .returned v ∧ w'.ownsRow w.heap.size 9 1 v (platsR l).length (Ss (platsR l))) := Lib.hid (by
    have := platformsOf_any A n c l w h (by omega)
    rwa [plats_same hE] at this)
  have e0 : inPl l p = decide (p.data.toList ∈ platsR l) := rfl
  rw [e0]
  generalize platsR l = R at PL ⊢
  have CT : Hid (∀ A c W, Rws tx 1 W W.heap.size A R.length c R → Calls Try.prog 75 #[.slice A R.length c, .string p] W fun e w' => W = w' ∧ e = .returned (.bool (decide (p.data.toList ∈ R)))) := Lib.hid fun A c W hW => contains_any A R.length c _ R p W hW
  generalize decide (p.data.toList ∈ R) = v at CT ⊢
  clear h hE e0
  cases v
  · go_enter Try.func55, Try.ntmps55
    go_wp2_with (first
      | (go_at_call 42; refine PL.out.mono ?_; rintro e w1 ⟨hb1, v, rfl, hown⟩; obtain ⟨A1, c1, rfl, hr⟩ := tx_own hown rfl; have HR := Lib.hid hr; have HB1 := Lib.hid hb1; clear hown hr hb1)
      | (go_at_call 75; refine (CT.out _ _ _ HR.out).mono ?_; rintro e w' ⟨rfl, rfl⟩))
    go_ret
    exact ⟨HB1.out, rfl⟩
  · go_enter Try.func55, Try.ntmps55
    go_wp2_with (first
      | (go_at_call 42; refine PL.out.mono ?_; rintro e w1 ⟨hb1, v, rfl, hown⟩; obtain ⟨A1, c1, rfl, hr⟩ := tx_own hown rfl; have HR := Lib.hid hr; have HB1 := Lib.hid hb1; clear hown hr hb1)
      | (go_at_call 75; refine (CT.out _ _ _ HR.out).mono ?_; rintro e w' ⟨rfl, rfl⟩))
    go_ret
    exact ⟨HB1.out, rfl⟩
set_option maxHeartbeats 4000000 in
theorem questionError_any (A : Option Addr) (n c : Nat) (l : List Ev) (p : ByteArray) (day : Int) (w : World) (h : Rws Ev.cs 6 w w.heap.size A n c l) (hs : n ≤ 400 → ∀ x ∈ l, x.p.size ≤ 30) (ho : ∀ x ∈ l, evOk x) :
    Calls Try.prog 47 #[.slice A n c, .string p, .int .i64 day] w fun e w' => Below w.heap.size w w' ∧ e = .returned (.int .i64 (qErr l p day)) := by
  obtain ⟨T, hT⟩ : ∃ T, recErr l = T := ⟨_, rfl⟩
  have CR : Hid (Calls Try.prog 15 #[.slice A n c] w fun e w' => Below w.heap.size w w' ∧ e = .returned (.int .i64 T)) := Lib.hid (by
    have := checkRec_all A n c l w h hs ho
    rwa [hT] at this)
  have PE : Hid (T = 0 → ∀ W, Below w.heap.size w W → Calls Try.prog 55 #[.slice A n c, .string p] W fun e w' => Below W.heap.size W w' ∧ e = .returned (.int .i64 (if inPl l p then 0 else 6))) := Lib.hid fun h0 W hW =>
    platformError_any A n c l p W (h.below hW (Nat.le_refl _) hW.size) (hT.trans h0)
  have hq : qErr l p day = if T = 0 then (if dayB day then (if inPl l p then 0 else 6) else 2) else T := by unfold qErr; rw [hT]
  rw [hq]
  generalize (if inPl l p then (0 : Int) else 6) = G at PE ⊢
  clear h hs ho hT hq
  by_cases hT0 : T = 0
  · subst hT0
    rw [if_pos rfl]
    obtain ⟨v, hv⟩ : ∃ v, dayB day = v := ⟨_, rfl⟩
    have HDY := Lib.hid hv
    rw [hv]
    clear hv
    have PE2 := Lib.hid (PE.out rfl)
    cases v
    · clear PE
      go_enter Try.func47, Try.ntmps47
      go_wp2_with (first | (go_at_call 15; refine CR.out.mono ?_; rintro e w1 ⟨hb1, rfl⟩; have HB1 := Lib.hid hb1; clear hb1) | (go_at_call 68; refine (isDay_b HDY.out _).mono ?_; rintro e w2 ⟨hb2, rfl⟩; have HB2 : Hid (Below w.heap.size w w2) := Lib.hid (HB1.out.trans (hb2.mono HB1.out.size)); clear hb2))
      go_ret
      exact ⟨HB2.out, ret_int (by simp)⟩
    · clear PE
      go_enter Try.func47, Try.ntmps47
      go_wp2_with (first | (go_at_call 15; refine CR.out.mono ?_; rintro e w1 ⟨hb1, rfl⟩; have HB1 := Lib.hid hb1; clear hb1) | (go_at_call 68; refine (isDay_b HDY.out _).mono ?_; rintro e w2 ⟨hb2, rfl⟩; have HB2 : Hid (Below w.heap.size w w2) := Lib.hid (HB1.out.trans (hb2.mono HB1.out.size)); clear hb2) | (go_at_call 55; refine (PE2.out _ HB2.out).mono ?_; rintro e w3 ⟨hb3, rfl⟩; have HB3 : Hid (Below w.heap.size w w3) := Lib.hid (HB2.out.trans (hb3.mono HB2.out.size)); clear hb3))
      go_ret
      exact ⟨HB3.out, ret_int (by simp)⟩
  · have h0b : (T != 0) = true := by simpa using hT0
    rw [if_neg hT0]
    clear PE hT0
    go_enter Try.func47, Try.ntmps47
    go_wp2_with (go_at_call 15; refine CR.out.mono ?_; rintro e w1 ⟨hb1, rfl⟩; have HB1 := Lib.hid hb1; clear hb1)
    go_ret
    exact ⟨HB1.out, rfl⟩

end Go.Proofs.Ytgjjjnofdjhikaa

/- Chapter 9, walks: Tag and Reasons of the program. -/
namespace Go.Proofs.Ytgjjjnofdjhikaa
open Go.RowKit Go.Maps

theorem qErr_zero {l : List Ev} {p : ByteArray} {day : Int} (h : qErr l p day = 0) : recErr l = 0 ∧ dayB day = true ∧ inPl l p = true := by
  unfold qErr at h
  split at h
  · rename_i h0
    split at h
    · rename_i h1
      split at h
      · rename_i h2
        exact ⟨h0, h1, h2⟩
      · cases h
    · cases h
  · contradiction
/-- The reasons against a platform that is in a record. -/
theorem against_q (A : Option Addr) (n c : Nat) (l : List Ev) (p : ByteArray) (day : Int) (w : World) (h : Rws Ev.cs 6 w w.heap.size A n c l) (hs : ∀ x ∈ l, x.p.size ≤ 30) (ho : ∀ x ∈ l, evOk x) (hE : recErr l = 0) (hp : inPl l p = true) :
    Calls Try.prog 48 #[.slice A n c, .string p, .int .i64 day] w fun e w' => Below w.heap.size w w' ∧ e = .returned (agV (l.filter (upF day)) p day) := by
  obtain ⟨t0, x, hx, e⟩ := platsR_ne (of_decide_eq_true hp)
  have hz : x.p = p := by
    have h1 := ba_of (t := p.data.toList) e
    have h2 := ba_of (t := p.data.toList) (p := p) rfl
    exact h1.symm.trans h2
  refine against_rec A n c l p day w h hs ho hE ?_ (hz ▸ hs x hx)
  intro hz2
  exact t0 (size_nil hz2)
set_option maxHeartbeats 4000000 in
theorem tagP_bad (A : Option Addr) (n c : Nat) (l : List Ev) (p : ByteArray) (day : Int) (w : World) (h : Rws Ev.cs 6 w w.heap.size A n c l) (hs : n ≤ 400 → ∀ x ∈ l, x.p.size ≤ 30) (ho : ∀ x ∈ l, evOk x) (E : Int) (hE : qErr l p day = E) (h0 : E ≠ 0) :
    Calls Try.prog 20 #[.slice A n c, .string p, .int .i64 day] w fun e w' => Below w.heap.size w w' ∧ e = .returned (.tuple #[.int .i64 0, .int .i64 E]) := by
  have QE : Hid (Calls Try.prog 47 #[.slice A n c, .string p, .int .i64 day] w fun e w' => Below w.heap.size w w' ∧ e = .returned (.int .i64 E)) := Lib.hid (by
    have := questionError_any A n c l p day w h hs ho
    rwa [hE] at this)
  have h0b : (E != 0) = true := by simpa using h0
  clear h hs ho hE h0
  go_enter Try.func20, Try.ntmps20
  go_wp2_with (go_at_call 47; refine QE.out.mono ?_; rintro e w1 ⟨hb1, rfl⟩; have HB1 := Lib.hid hb1; clear hb1)
  go_ret2
  exact ⟨HB1.out, rfl⟩
set_option maxHeartbeats 4000000 in
theorem reasP_bad (A : Option Addr) (n c : Nat) (l : List Ev) (p : ByteArray) (day : Int) (w : World) (h : Rws Ev.cs 6 w w.heap.size A n c l) (hs : n ≤ 400 → ∀ x ∈ l, x.p.size ≤ 30) (ho : ∀ x ∈ l, evOk x) (E : Int) (hE : qErr l p day = E) (h0 : E ≠ 0) :
    Calls Try.prog 19 #[.slice A n c, .string p, .int .i64 day] w fun e w' => Below w.heap.size w w' ∧ e = .returned (.tuple #[.slice none 0 0, .int .i64 E]) := by
  have QE : Hid (Calls Try.prog 47 #[.slice A n c, .string p, .int .i64 day] w fun e w' => Below w.heap.size w w' ∧ e = .returned (.int .i64 E)) := Lib.hid (by
    have := questionError_any A n c l p day w h hs ho
    rwa [hE] at this)
  have h0b : (E != 0) = true := by simpa using h0
  clear h hs ho hE h0
  go_enter Try.func19, Try.ntmps19
  go_wp2_with (go_at_call 47; refine QE.out.mono ?_; rintro e w1 ⟨hb1, rfl⟩; have HB1 := Lib.hid hb1; clear hb1)
  go_ret2
  exact ⟨HB1.out, rfl⟩
set_option maxHeartbeats 4000000 in
theorem defP_bad (A : Option Addr) (n c : Nat) (l : List Ev) (p : ByteArray) (day : Int) (w : World) (h : Rws Ev.cs 6 w w.heap.size A n c l) (hs : n ≤ 400 → ∀ x ∈ l, x.p.size ≤ 30) (ho : ∀ x ∈ l, evOk x) (E : Int) (hE : qErr l p day = E) (h0 : E ≠ 0) :
    Calls Try.prog 21 #[.slice A n c, .string p, .int .i64 day] w fun e w' => Below w.heap.size w w' ∧ e = .returned (.tuple #[.slice none 0 0, .int .i64 E]) := by
  have QE : Hid (Calls Try.prog 47 #[.slice A n c, .string p, .int .i64 day] w fun e w' => Below w.heap.size w w' ∧ e = .returned (.int .i64 E)) := Lib.hid (by
    have := questionError_any A n c l p day w h hs ho
    rwa [hE] at this)
  have h0b : (E != 0) = true := by simpa using h0
  clear h hs ho hE h0
  go_enter Try.func21, Try.ntmps21
  go_wp2_with (go_at_call 47; refine QE.out.mono ?_; rintro e w1 ⟨hb1, rfl⟩; have HB1 := Lib.hid hb1; clear hb1)
  go_ret2
  exact ⟨HB1.out, rfl⟩
set_option maxHeartbeats 4000000 in
theorem tagP_ok (A : Option Addr) (n c : Nat) (l : List Ev) (p : ByteArray) (day : Int) (w : World) (h : Rws Ev.cs 6 w w.heap.size A n c l) (hs : ∀ x ∈ l, x.p.size ≤ 30) (ho : ∀ x ∈ l, evOk x) (hE : qErr l p day = 0) :
    Calls Try.prog 20 #[.slice A n c, .string p, .int .i64 day] w fun e w' => Below w.heap.size w w' ∧ e = .returned (.tuple #[.int .i64 (tagR (reasonsR (l.filter (upF day)) p day)), .int .i64 0]) := by
  obtain ⟨hR, -, hP⟩ := qErr_zero hE
  have hn := recErr_small hR
  rw [h.len] at hn
  have QE : Hid (Calls Try.prog 47 #[.slice A n c, .string p, .int .i64 day] w fun e w' => Below w.heap.size w w' ∧ e = .returned (.int .i64 0)) := Lib.hid (by
    have := questionError_any A n c l p day w h (fun _ => hs) ho
    rwa [hE] at this)
  have AG : Hid (∀ W, Below w.heap.size w W → Calls Try.prog 48 #[.slice A n c, .string p, .int .i64 day] W fun e w' => Below W.heap.size W w' ∧ e = .returned (agV (l.filter (upF day)) p day)) := Lib.hid fun W hW =>
    against_q A n c l p day W (h.below hW (Nat.le_refl _) hW.size) hs ho hR hP
  have e0 : reasonsR (l.filter (upF day)) p day = rs (rB0 (l.filter (upF day)) p) (rB1 (l.filter (upF day)) p) (!freshB (l.filter (upF day)) p day) (decide (0 < (olistG true (l.filter (upF day)) p).length)) (decide (0 < (olistG false (l.filter (upF day)) p).length)) := rfl
  rw [e0]
  unfold agV at AG
  generalize rB0 (l.filter (upF day)) p = b0 at AG ⊢
  generalize rB1 (l.filter (upF day)) p = b1 at AG ⊢
  generalize (!freshB (l.filter (upF day)) p day) = b2 at AG ⊢
  generalize decide (0 < (olistG true (l.filter (upF day)) p).length) = b3 at AG ⊢
  generalize decide (0 < (olistG false (l.filter (upF day)) p).length) = b4 at AG ⊢
  clear h hs ho hE hR hP e0
  have TG : Hid (∀ W, Calls Try.prog 49 #[.agg #[.bool b0, .bool b1, .bool b2, .bool b3, .bool b4]] W fun e w' => Below W.heap.size W w' ∧ e = .returned (.int .i64 (tagB b0 b1 b2 b3 b4))) := Lib.hid fun W => tag_any b0 b1 b2 b3 b4 W
  rw [tagR_rs]
  generalize tagB b0 b1 b2 b3 b4 = T at TG ⊢
  go_enter Try.func20, Try.ntmps20
  go_wp2_with (first | (go_at_call 47; refine QE.out.mono ?_; rintro e w1 ⟨hb1, rfl⟩; have HB1 := Lib.hid hb1; clear hb1) | (go_at_call 48; refine (AG.out _ HB1.out).mono ?_; rintro e w2 ⟨hb2, rfl⟩; have HB2 : Hid (Below w.heap.size w w2) := Lib.hid (HB1.out.trans (hb2.mono HB1.out.size)); clear hb2) | (go_at_call 49; refine (TG.out _).mono ?_; rintro e w3 ⟨hb3, rfl⟩; have HB3 : Hid (Below w.heap.size w w3) := Lib.hid (HB2.out.trans (hb3.mono HB2.out.size)); clear hb3))
  go_ret2
  exact ⟨HB3.out, rfl⟩
theorem ag_at0 (a b c d e : Bool) (w : World) : (Instr.index 85 (.agg #[.bool a, .bool b, .bool c, .bool d, .bool e]) (.int .i64 0)).run Try.prog w = .ok (.bool a) w := by kernel_rfl
theorem ag_at1 (a b c d e : Bool) (w : World) : (Instr.index 85 (.agg #[.bool a, .bool b, .bool c, .bool d, .bool e]) (.int .i64 1)).run Try.prog w = .ok (.bool b) w := by kernel_rfl
theorem ag_at2 (a b c d e : Bool) (w : World) : (Instr.index 85 (.agg #[.bool a, .bool b, .bool c, .bool d, .bool e]) (.int .i64 2)).run Try.prog w = .ok (.bool c) w := by kernel_rfl
theorem ag_at3 (a b c d e : Bool) (w : World) : (Instr.index 85 (.agg #[.bool a, .bool b, .bool c, .bool d, .bool e]) (.int .i64 3)).run Try.prog w = .ok (.bool d) w := by kernel_rfl
theorem ag_at4 (a b c d e : Bool) (w : World) : (Instr.index 85 (.agg #[.bool a, .bool b, .bool c, .bool d, .bool e]) (.int .i64 4)).run Try.prog w = .ok (.bool e) w := by kernel_rfl
/-- The reasons among the first k. -/
def rsTo (b0 b1 b2 b3 b4 : Bool) : Nat → List Int
  | 0 => []
  | 1 => one b0 0
  | 2 => one b0 0 ++ one b1 1
  | 3 => one b0 0 ++ one b1 1 ++ one b2 2
  | 4 => one b0 0 ++ one b1 1 ++ one b2 2 ++ one b3 3
  | _ => rs b0 b1 b2 b3 b4
theorem rsTo_len (b0 b1 b2 b3 b4 : Bool) (k : Nat) : (rsTo b0 b1 b2 b3 b4 k).length ≤ 5 := by
  unfold rsTo rs
  split <;> (cases b0 <;> cases b1 <;> cases b2 <;> cases b3 <;> cases b4 <;> simp [one])
set_option maxRecDepth 100000 in
set_option maxHeartbeats 8000000 in
theorem reasP_ok (A : Option Addr) (n c : Nat) (l : List Ev) (p : ByteArray) (day : Int) (w : World) (h : Rws Ev.cs 6 w w.heap.size A n c l) (hs : ∀ x ∈ l, x.p.size ≤ 30) (ho : ∀ x ∈ l, evOk x) (hE : qErr l p day = 0) :
    Calls Try.prog 19 #[.slice A n c, .string p, .int .i64 day] w fun e w' => Below w.heap.size w w' ∧ ∃ v, e = .returned (.tuple #[v, .int .i64 0]) ∧ w'.ownsRow w.heap.size 3 1 v (reasonsR (l.filter (upF day)) p day).length (i64s (reasonsR (l.filter (upF day)) p day)) := by
  obtain ⟨hR, -, hP⟩ := qErr_zero hE
  have hn := recErr_small hR
  rw [h.len] at hn
  have QE : Hid (Calls Try.prog 47 #[.slice A n c, .string p, .int .i64 day] w fun e w' => Below w.heap.size w w' ∧ e = .returned (.int .i64 0)) := Lib.hid (by
    have := questionError_any A n c l p day w h (fun _ => hs) ho
    rwa [hE] at this)
  have AG : Hid (∀ W, Below w.heap.size w W → Calls Try.prog 48 #[.slice A n c, .string p, .int .i64 day] W fun e w' => Below W.heap.size W w' ∧ e = .returned (agV (l.filter (upF day)) p day)) := Lib.hid fun W hW =>
    against_q A n c l p day W (h.below hW (Nat.le_refl _) hW.size) hs ho hR hP
  have e0 : reasonsR (l.filter (upF day)) p day = rs (rB0 (l.filter (upF day)) p) (rB1 (l.filter (upF day)) p) (!freshB (l.filter (upF day)) p day) (decide (0 < (olistG true (l.filter (upF day)) p).length)) (decide (0 < (olistG false (l.filter (upF day)) p).length)) := rfl
  rw [e0]
  unfold agV at AG
  generalize rB0 (l.filter (upF day)) p = b0 at AG ⊢
  generalize rB1 (l.filter (upF day)) p = b1 at AG ⊢
  generalize (!freshB (l.filter (upF day)) p day) = b2 at AG ⊢
  generalize decide (0 < (olistG true (l.filter (upF day)) p).length) = b3 at AG ⊢
  generalize decide (0 < (olistG false (l.filter (upF day)) p).length) = b4 at AG ⊢
  clear h hs ho hE hR hP e0
  have i0 := ag_at0
  have i1 := ag_at1
  have i2 := ag_at2
  have i3 := ag_at3
  have i4 := ag_at4
  go_enter Try.func19, Try.ntmps19
  go_wp2_with (first | (go_at_call 47; refine QE.out.mono ?_; rintro e w1 ⟨hb1, rfl⟩; have HB1 := Lib.hid hb1; clear hb1) | (go_at_call 48; refine (AG.out _ HB1.out).mono ?_; rintro e w2 ⟨hb2, rfl⟩; have HB2 : Hid (Below w.heap.size w w2) := Lib.hid (HB1.out.trans (hb2.mono HB1.out.size)); clear hb2))
  go_loopw [9, 10, 11, 23] (fun v _ _ i wr => ∃ (k : Nat) (z : Int) (os : List Int), k ≤ 5 ∧ z = k ∧ i = .int .i64 z ∧ Hid (rsTo b0 b1 b2 b3 b4 k = os) ∧ wr.ownsRow w.heap.size 3 1 v os.length (i64s os) ∧ Below w.heap.size w wr) (fun _ _ _ i _ => 5 - (intOf i).toNat)
  case atStart => exact ⟨0, 0, [], Nat.zero_le _, rfl, rfl, Lib.hid rfl, World.ownsRow_nil _ _ _ _, HB2.out⟩
  case round =>
    obtain ⟨k, z, os, hk, hz, rfl, HOS, hown, hb⟩ := hrel
    have hol : os.length ≤ 5 := by rw [← HOS.out]; exact rsTo_len _ _ _ _ _ _
    have HB := Lib.hid hb
    have HOWN := Lib.hid hown
    have ow := hb.size
    clear hb hown
    have hk6 : k = 0 ∨ k = 1 ∨ k = 2 ∨ k = 3 ∨ k = 4 ∨ k = 5 := by omega
    rcases hk6 with rfl | rfl | rfl | rfl | rfl | rfl
    · have e : z = 0 := by simpa using hz
      clear hz
      subst e
      cases b0
      · have HN : Hid (rsTo false b1 b2 b3 b4 (0 + 1) = os) := Lib.hid (by rw [← HOS.out]; simp [rsTo, one])
        go_wp2
        go_roundw
        case rel => exact ⟨0 + 1, 0 + 1, os, by omega, by rfl, by rfl, HN, HOWN.out, HB.out⟩
        case measure => simp [intOf]
      · have HN : Hid (rsTo true b1 b2 b3 b4 (0 + 1) = os ++ [0]) := Lib.hid (by rw [← HOS.out]; simp [rsTo, one])
        go_wp2_with (at_builtin; go_loud (refine app_i (W := os) (base := w.heap.size) ?_ rfl _ _ rfl rfl 0 _ rfl ?_ (by omega) ?_ ?_; (exact own_step HOWN.out (by exact (by repeat (first | with_reducible exact Below.refl _ _ | with_reducible assumption | with_reducible refine Below.drew ?_ | with_reducible refine Below.drewN ?_ _ | with_reducible refine Below.alloc2 ?_ _ | with_reducible refine Below.alloc ?_ (by first | omega | (simp <;> omega)) _ | with_reducible refine Below.setCell ?_ (by first | omega | (simp <;> omega)) _ | with_reducible refine Below.step2 (by with_reducible assumption) ?_ | with_reducible refine Below.step (by with_reducible assumption) ?_ (by first | omega | (simp <;> omega)))))); (focus (exact (by repeat (first | with_reducible assumption | with_reducible exact Bk.at_ (by first | (simp; done) | omega) | with_reducible refine Bk.alloc ?_ _ | with_reducible refine Bk.drew ?_ | with_reducible refine Bk.drewN ?_ _ | with_reducible refine Bk.step (by with_reducible assumption) ?_ (by first | omega | (simp <;> omega)))))); (focus (have := HB.out.size; first | (simp; done) | (simp; omega) | omega)); intro v4 w4 ho4 hg4; have HO4 := Lib.hid ho4; have HB4 : Hid (Below w.heap.size w w4) := Lib.hid (Below.grown_ (by have hb0 := HB.out; exact (by repeat (first | with_reducible exact Below.refl _ _ | with_reducible assumption | with_reducible refine Below.drew ?_ | with_reducible refine Below.drewN ?_ _ | with_reducible refine Below.alloc2 ?_ _ | with_reducible refine Below.alloc ?_ (by first | omega | (simp <;> omega)) _ | with_reducible refine Below.setCell ?_ (by first | omega | (simp <;> omega)) _ | with_reducible refine Below.step2 (by with_reducible assumption) ?_ | with_reducible refine Below.step (by with_reducible assumption) ?_ (by first | omega | (simp <;> omega))))) hg4 (by have := HB.out.size; first | (simp; done) | (simp; omega) | omega) (fun q hq => (HOWN.out.lt q hq).1)); clear ho4 hg4))
        go_roundw
        case rel => exact ⟨0 + 1, 0 + 1, os ++ [0], by omega, by rfl, by rfl, HN, HO4.out, HB4.out⟩
        case measure => simp [intOf]
    · have e : z = 1 := by simpa using hz
      clear hz
      subst e
      cases b1
      · have HN : Hid (rsTo b0 false b2 b3 b4 (1 + 1) = os) := Lib.hid (by rw [← HOS.out]; simp [rsTo, one])
        go_wp2
        go_roundw
        case rel => exact ⟨1 + 1, 1 + 1, os, by omega, by rfl, by rfl, HN, HOWN.out, HB.out⟩
        case measure => simp [intOf]
      · have HN : Hid (rsTo b0 true b2 b3 b4 (1 + 1) = os ++ [1]) := Lib.hid (by rw [← HOS.out]; simp [rsTo, one])
        go_wp2_with (at_builtin; go_loud (refine app_i (W := os) (base := w.heap.size) ?_ rfl _ _ rfl rfl 1 _ rfl ?_ (by omega) ?_ ?_; (exact own_step HOWN.out (by exact (by repeat (first | with_reducible exact Below.refl _ _ | with_reducible assumption | with_reducible refine Below.drew ?_ | with_reducible refine Below.drewN ?_ _ | with_reducible refine Below.alloc2 ?_ _ | with_reducible refine Below.alloc ?_ (by first | omega | (simp <;> omega)) _ | with_reducible refine Below.setCell ?_ (by first | omega | (simp <;> omega)) _ | with_reducible refine Below.step2 (by with_reducible assumption) ?_ | with_reducible refine Below.step (by with_reducible assumption) ?_ (by first | omega | (simp <;> omega)))))); (focus (exact (by repeat (first | with_reducible assumption | with_reducible exact Bk.at_ (by first | (simp; done) | omega) | with_reducible refine Bk.alloc ?_ _ | with_reducible refine Bk.drew ?_ | with_reducible refine Bk.drewN ?_ _ | with_reducible refine Bk.step (by with_reducible assumption) ?_ (by first | omega | (simp <;> omega)))))); (focus (have := HB.out.size; first | (simp; done) | (simp; omega) | omega)); intro v4 w4 ho4 hg4; have HO4 := Lib.hid ho4; have HB4 : Hid (Below w.heap.size w w4) := Lib.hid (Below.grown_ (by have hb0 := HB.out; exact (by repeat (first | with_reducible exact Below.refl _ _ | with_reducible assumption | with_reducible refine Below.drew ?_ | with_reducible refine Below.drewN ?_ _ | with_reducible refine Below.alloc2 ?_ _ | with_reducible refine Below.alloc ?_ (by first | omega | (simp <;> omega)) _ | with_reducible refine Below.setCell ?_ (by first | omega | (simp <;> omega)) _ | with_reducible refine Below.step2 (by with_reducible assumption) ?_ | with_reducible refine Below.step (by with_reducible assumption) ?_ (by first | omega | (simp <;> omega))))) hg4 (by have := HB.out.size; first | (simp; done) | (simp; omega) | omega) (fun q hq => (HOWN.out.lt q hq).1)); clear ho4 hg4))
        go_roundw
        case rel => exact ⟨1 + 1, 1 + 1, os ++ [1], by omega, by rfl, by rfl, HN, HO4.out, HB4.out⟩
        case measure => simp [intOf]
    · have e : z = 2 := by simpa using hz
      clear hz
      subst e
      cases b2
      · have HN : Hid (rsTo b0 b1 false b3 b4 (2 + 1) = os) := Lib.hid (by rw [← HOS.out]; simp [rsTo, one])
        go_wp2
        go_roundw
        case rel => exact ⟨2 + 1, 2 + 1, os, by omega, by rfl, by rfl, HN, HOWN.out, HB.out⟩
        case measure => simp [intOf]
      · have HN : Hid (rsTo b0 b1 true b3 b4 (2 + 1) = os ++ [2]) := Lib.hid (by rw [← HOS.out]; simp [rsTo, one])
        go_wp2_with (at_builtin; go_loud (refine app_i (W := os) (base := w.heap.size) ?_ rfl _ _ rfl rfl 2 _ rfl ?_ (by omega) ?_ ?_; (exact own_step HOWN.out (by exact (by repeat (first | with_reducible exact Below.refl _ _ | with_reducible assumption | with_reducible refine Below.drew ?_ | with_reducible refine Below.drewN ?_ _ | with_reducible refine Below.alloc2 ?_ _ | with_reducible refine Below.alloc ?_ (by first | omega | (simp <;> omega)) _ | with_reducible refine Below.setCell ?_ (by first | omega | (simp <;> omega)) _ | with_reducible refine Below.step2 (by with_reducible assumption) ?_ | with_reducible refine Below.step (by with_reducible assumption) ?_ (by first | omega | (simp <;> omega)))))); (focus (exact (by repeat (first | with_reducible assumption | with_reducible exact Bk.at_ (by first | (simp; done) | omega) | with_reducible refine Bk.alloc ?_ _ | with_reducible refine Bk.drew ?_ | with_reducible refine Bk.drewN ?_ _ | with_reducible refine Bk.step (by with_reducible assumption) ?_ (by first | omega | (simp <;> omega)))))); (focus (have := HB.out.size; first | (simp; done) | (simp; omega) | omega)); intro v4 w4 ho4 hg4; have HO4 := Lib.hid ho4; have HB4 : Hid (Below w.heap.size w w4) := Lib.hid (Below.grown_ (by have hb0 := HB.out; exact (by repeat (first | with_reducible exact Below.refl _ _ | with_reducible assumption | with_reducible refine Below.drew ?_ | with_reducible refine Below.drewN ?_ _ | with_reducible refine Below.alloc2 ?_ _ | with_reducible refine Below.alloc ?_ (by first | omega | (simp <;> omega)) _ | with_reducible refine Below.setCell ?_ (by first | omega | (simp <;> omega)) _ | with_reducible refine Below.step2 (by with_reducible assumption) ?_ | with_reducible refine Below.step (by with_reducible assumption) ?_ (by first | omega | (simp <;> omega))))) hg4 (by have := HB.out.size; first | (simp; done) | (simp; omega) | omega) (fun q hq => (HOWN.out.lt q hq).1)); clear ho4 hg4))
        go_roundw
        case rel => exact ⟨2 + 1, 2 + 1, os ++ [2], by omega, by rfl, by rfl, HN, HO4.out, HB4.out⟩
        case measure => simp [intOf]
    · have e : z = 3 := by simpa using hz
      clear hz
      subst e
      cases b3
      · have HN : Hid (rsTo b0 b1 b2 false b4 (3 + 1) = os) := Lib.hid (by rw [← HOS.out]; simp [rsTo, one])
        go_wp2
        go_roundw
        case rel => exact ⟨3 + 1, 3 + 1, os, by omega, by rfl, by rfl, HN, HOWN.out, HB.out⟩
        case measure => simp [intOf]
      · have HN : Hid (rsTo b0 b1 b2 true b4 (3 + 1) = os ++ [3]) := Lib.hid (by rw [← HOS.out]; simp [rsTo, one])
        go_wp2_with (at_builtin; go_loud (refine app_i (W := os) (base := w.heap.size) ?_ rfl _ _ rfl rfl 3 _ rfl ?_ (by omega) ?_ ?_; (exact own_step HOWN.out (by exact (by repeat (first | with_reducible exact Below.refl _ _ | with_reducible assumption | with_reducible refine Below.drew ?_ | with_reducible refine Below.drewN ?_ _ | with_reducible refine Below.alloc2 ?_ _ | with_reducible refine Below.alloc ?_ (by first | omega | (simp <;> omega)) _ | with_reducible refine Below.setCell ?_ (by first | omega | (simp <;> omega)) _ | with_reducible refine Below.step2 (by with_reducible assumption) ?_ | with_reducible refine Below.step (by with_reducible assumption) ?_ (by first | omega | (simp <;> omega)))))); (focus (exact (by repeat (first | with_reducible assumption | with_reducible exact Bk.at_ (by first | (simp; done) | omega) | with_reducible refine Bk.alloc ?_ _ | with_reducible refine Bk.drew ?_ | with_reducible refine Bk.drewN ?_ _ | with_reducible refine Bk.step (by with_reducible assumption) ?_ (by first | omega | (simp <;> omega)))))); (focus (have := HB.out.size; first | (simp; done) | (simp; omega) | omega)); intro v4 w4 ho4 hg4; have HO4 := Lib.hid ho4; have HB4 : Hid (Below w.heap.size w w4) := Lib.hid (Below.grown_ (by have hb0 := HB.out; exact (by repeat (first | with_reducible exact Below.refl _ _ | with_reducible assumption | with_reducible refine Below.drew ?_ | with_reducible refine Below.drewN ?_ _ | with_reducible refine Below.alloc2 ?_ _ | with_reducible refine Below.alloc ?_ (by first | omega | (simp <;> omega)) _ | with_reducible refine Below.setCell ?_ (by first | omega | (simp <;> omega)) _ | with_reducible refine Below.step2 (by with_reducible assumption) ?_ | with_reducible refine Below.step (by with_reducible assumption) ?_ (by first | omega | (simp <;> omega))))) hg4 (by have := HB.out.size; first | (simp; done) | (simp; omega) | omega) (fun q hq => (HOWN.out.lt q hq).1)); clear ho4 hg4))
        go_roundw
        case rel => exact ⟨3 + 1, 3 + 1, os ++ [3], by omega, by rfl, by rfl, HN, HO4.out, HB4.out⟩
        case measure => simp [intOf]
    · have e : z = 4 := by simpa using hz
      clear hz
      subst e
      cases b4
      · have HN : Hid (rsTo b0 b1 b2 b3 false (4 + 1) = os) := Lib.hid (by rw [← HOS.out]; simp [rsTo, rs, one])
        go_wp2
        go_roundw
        case rel => exact ⟨4 + 1, 4 + 1, os, by omega, by rfl, by rfl, HN, HOWN.out, HB.out⟩
        case measure => simp [intOf]
      · have HN : Hid (rsTo b0 b1 b2 b3 true (4 + 1) = os ++ [4]) := Lib.hid (by rw [← HOS.out]; simp [rsTo, rs, one])
        go_wp2_with (at_builtin; go_loud (refine app_i (W := os) (base := w.heap.size) ?_ rfl _ _ rfl rfl 4 _ rfl ?_ (by omega) ?_ ?_; (exact own_step HOWN.out (by exact (by repeat (first | with_reducible exact Below.refl _ _ | with_reducible assumption | with_reducible refine Below.drew ?_ | with_reducible refine Below.drewN ?_ _ | with_reducible refine Below.alloc2 ?_ _ | with_reducible refine Below.alloc ?_ (by first | omega | (simp <;> omega)) _ | with_reducible refine Below.setCell ?_ (by first | omega | (simp <;> omega)) _ | with_reducible refine Below.step2 (by with_reducible assumption) ?_ | with_reducible refine Below.step (by with_reducible assumption) ?_ (by first | omega | (simp <;> omega)))))); (focus (exact (by repeat (first | with_reducible assumption | with_reducible exact Bk.at_ (by first | (simp; done) | omega) | with_reducible refine Bk.alloc ?_ _ | with_reducible refine Bk.drew ?_ | with_reducible refine Bk.drewN ?_ _ | with_reducible refine Bk.step (by with_reducible assumption) ?_ (by first | omega | (simp <;> omega)))))); (focus (have := HB.out.size; first | (simp; done) | (simp; omega) | omega)); intro v4 w4 ho4 hg4; have HO4 := Lib.hid ho4; have HB4 : Hid (Below w.heap.size w w4) := Lib.hid (Below.grown_ (by have hb0 := HB.out; exact (by repeat (first | with_reducible exact Below.refl _ _ | with_reducible assumption | with_reducible refine Below.drew ?_ | with_reducible refine Below.drewN ?_ _ | with_reducible refine Below.alloc2 ?_ _ | with_reducible refine Below.alloc ?_ (by first | omega | (simp <;> omega)) _ | with_reducible refine Below.setCell ?_ (by first | omega | (simp <;> omega)) _ | with_reducible refine Below.step2 (by with_reducible assumption) ?_ | with_reducible refine Below.step (by with_reducible assumption) ?_ (by first | omega | (simp <;> omega))))) hg4 (by have := HB.out.size; first | (simp; done) | (simp; omega) | omega) (fun q hq => (HOWN.out.lt q hq).1)); clear ho4 hg4))
        go_roundw
        case rel => exact ⟨4 + 1, 4 + 1, os ++ [4], by omega, by rfl, by rfl, HN, HO4.out, HB4.out⟩
        case measure => simp [intOf]
    · have e : z = 5 := by simpa using hz
      clear hz
      subst e
      have HR : Hid (rs b0 b1 b2 b3 b4 = os) := Lib.hid HOS.out
      go_wp2
      go_ret2
      exact ⟨HB.out, _, rfl, by rw [HR.out]; exact HOWN.out⟩

end Go.Proofs.Ytgjjjnofdjhikaa
