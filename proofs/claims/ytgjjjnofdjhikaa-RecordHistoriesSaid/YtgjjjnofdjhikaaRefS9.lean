/- Several texts in one. -/
import Derived.Test.YtgjjjnofdjhikaaRecSpec9
import Derived.Test.YtgjjjnofdjhikaaConc9
import Derived.Test.YtgjjjnofdjhikaaOpened9
/- Chapter 9, walks: last of the reference. -/
namespace Go.Proofs.Ytgjjjnofdjhikaa
open Go.RowKit

/-- The number of the last event of a kind for a platform among the first events, or -1. -/
def isK (kd : Int) (p : ByteArray) (x : Ev) : Bool := decide (x.k = kd) && eqS x.p p
def lastTo (l : List Ev) (kd : Int) (p : ByteArray) : Nat → Int
  | 0 => -1
  | k + 1 => match l[k]? with
    | some x => if isK kd p x then (k : Int) else lastTo l kd p k
    | none => lastTo l kd p k
theorem lastTo_step {l : List Ev} {kd : Int} {p : ByteArray} {k : Nat} {x : Ev} (hx : l[k]? = some x) (b : Bool) (hb : isK kd p x = b) : lastTo l kd p (k + 1) = if b then (k : Int) else lastTo l kd p k := by
  rw [lastTo, hx]
  simp only [hb]
theorem lastTo_lt (l : List Ev) (kd : Int) (p : ByteArray) : ∀ k, -1 ≤ lastTo l kd p k ∧ lastTo l kd p k < k
  | 0 => by simp [lastTo]
  | k + 1 => by
    have := lastTo_lt l kd p k
    rw [lastTo]
    split
    · split <;> omega
    · omega
set_option maxHeartbeats 2000000 in
theorem last_any (A : Option Addr) (n c B : Nat) (l : List Ev) (kd : Int) (p : ByteArray) (w : World) (h : Rws Ev.cs 6 w B A n c l) :
    Calls Try.prog 52 #[.slice A n c, .int .i64 kd, .string p] w fun e w' => w = w' ∧ e = .returned (.int .i64 (lastTo l kd p n)) := by
  have hcap := h.cap
  have hmax := h.max
  obtain ⟨Z, hZ⟩ : ∃ Z, lastTo l kd p n = Z := ⟨_, rfl⟩
  have HZ := Lib.hid hZ
  rw [hZ]
  clear hZ
  go_enter Try.func52, Try.ntmps52
  go_wp2
  go_loop [7, 8] (fun v i => ∃ (k : Nat) (z : Int), k ≤ n ∧ i = .int .i64 k ∧ v = .int .i64 z ∧ Hid (lastTo l kd p k = z)) (fun _ i => n - (intOf i).toNat)
  case atStart => exact ⟨0, -1, Nat.zero_le _, rfl, rfl, Lib.hid rfl⟩
  case round =>
    obtain ⟨k, z, hk, rfl, rfl, HA⟩ := hrel
    by_cases hlt : k < n
    · obtain ⟨b, o, ⟨xd, xk, xp, xn, xs, xg⟩, rfl, hb, hx, c0, c1, c2, c3, c4, c5⟩ := h.ev hlt
      dsimp only at c0 c1 c2 c3 c4 c5
      have HT := Lib.hid (fun b hb => lastTo_step (kd := kd) (p := p) hx b hb)
      clear hx
      by_cases h4 : xk = kd
      · obtain ⟨v, hv⟩ : ∃ v, (xp.toList == p.toList) = v := ⟨_, rfl⟩
        have hvd : isK kd p ⟨xd, xk, xp, xn, xs, xg⟩ = v := by rw [← hv]; simp [isK, h4, eqS]
        have HN := Lib.hid (HT.out v hvd)
        have h4b : (xk == kd) = true := by simpa using h4
        clear hvd h4
        cases v
        · go_wp2
          go_round
          case rel => exact ⟨k + 1, z, by omega, by go_num, rfl, Lib.hid (HN.out.trans HA.out)⟩
          case measure => simp [intOf]; omega
        · go_wp2
          go_round
          case rel => exact ⟨k + 1, k, by omega, by go_num, rfl, HN⟩
          case measure => simp [intOf]; omega
      · have hvd : isK kd p ⟨xd, xk, xp, xn, xs, xg⟩ = false := by simp [isK, h4]
        have HN := Lib.hid (HT.out false hvd)
        have h4b : (xk == kd) = false := by simpa using h4
        clear hvd h4
        go_wp2
        go_round
        case rel => exact ⟨k + 1, z, by omega, by go_num, rfl, Lib.hid (HN.out.trans HA.out)⟩
        case measure => simp [intOf]; omega
    · go_wp2
      go_ret
      obtain rfl : k = n := by omega
      exact ⟨rfl, ret_int (HA.out.symm.trans HZ.out)⟩

end Go.Proofs.Ytgjjjnofdjhikaa

/- Chapter 9, walks: fresh of the reference. -/
namespace Go.Proofs.Ytgjjjnofdjhikaa
open Go.RowKit

/-- The number of the inspection that counts among the first events, or -1. -/
def isI (p : ByteArray) (x : Ev) : Bool := (decide (x.k = 1) || decide (x.k = 2)) && eqS x.p p
def frStep (p : ByteArray) (k : Nat) (x : Ev) (z : Int) : Int := if (isI p x && !x.ps) || decide (x.k = 3) then -1 else if isI p x && x.ps then (k : Int) else z
def frTo (l : List Ev) (p : ByteArray) : Nat → Int
  | 0 => -1
  | k + 1 => match l[k]? with
    | some x => frStep p k x (frTo l p k)
    | none => frTo l p k
theorem frTo_step {l : List Ev} {p : ByteArray} {k : Nat} {x : Ev} (hx : l[k]? = some x) : frTo l p (k + 1) = frStep p k x (frTo l p k) := by
  rw [frTo, hx]
theorem frTo_lt (l : List Ev) (p : ByteArray) : ∀ k, -1 ≤ frTo l p k ∧ frTo l p k < k
  | 0 => by simp [frTo]
  | k + 1 => by
    have := frTo_lt l p k
    rw [frTo]
    split
    · unfold frStep
      split
      · omega
      · split <;> omega
    · omega
def freshB (l : List Ev) (p : ByteArray) (day : Int) : Bool := if 0 ≤ frTo l p l.length then (match l[(frTo l p l.length).toNat]? with | some x => decide (day - x.d ≤ 7) | none => false) else false
set_option maxHeartbeats 4000000 in
theorem fresh_any (A : Option Addr) (n c B : Nat) (l : List Ev) (p : ByteArray) (day : Int) (w : World) (h : Rws Ev.cs 6 w B A n c l) (hd : ∀ x ∈ l, 0 ≤ x.d ∧ x.d ≤ 1000000000) (h0 : 0 ≤ day) (h1 : day ≤ 1000000000) :
    Calls Try.prog 53 #[.slice A n c, .string p, .int .i64 day] w fun e w' => w = w' ∧ e = .returned (.bool (freshB l p day)) := by
  have hcap := h.cap
  have hmax := h.max
  have HLEN := Lib.hid h.len
  have HD := Lib.hid hd
  obtain ⟨Z, hZ⟩ : ∃ Z, freshB l p day = Z := ⟨_, rfl⟩
  have HZ := Lib.hid hZ
  rw [hZ]
  clear hZ hd
  go_enter Try.func53, Try.ntmps53
  go_wp2
  go_loop [7, 8, 9] (fun v i _ => ∃ (k : Nat) (z : Int), k ≤ n ∧ i = .int .i64 k ∧ v = .int .i64 z ∧ Hid (frTo l p k = z)) (fun _ i _ => n - (intOf i).toNat)
  case atStart => exact ⟨0, -1, Nat.zero_le _, rfl, rfl, Lib.hid rfl⟩
  case round =>
    obtain ⟨k, z, hk, rfl, rfl, HA⟩ := hrel
    by_cases hlt : k < n
    · obtain ⟨b, o, ⟨xd, xk, xp, xn, xs, xg⟩, rfl, hb, hx, c0, c1, c2, c3, c4, c5⟩ := h.ev hlt
      dsimp only at c0 c1 c2 c3 c4 c5
      have HT := Lib.hid (frTo_step (p := p) hx)
      clear hx
      obtain ⟨v, hv⟩ : ∃ v, (xp.toList == p.toList) = v := ⟨_, rfl⟩
      have hve : eqS xp p = v := by rw [← hv]; rfl
      have HVE := Lib.hid hve
      clear hve
      by_cases k1 : xk = 1
      · subst k1
        cases v
        · (go_wp2
           go_round
           case rel => exact ⟨k + 1, z, by omega, by go_num, rfl, Lib.hid (HT.out.trans (by rw [HA.out]; simp [frStep, isI, HVE.out]))⟩
           case measure => simp [intOf]; omega)
        · cases xs
          · (go_wp2
             go_round
             case rel => exact ⟨k + 1, -1, by omega, by go_num, rfl, Lib.hid (HT.out.trans (by simp [frStep, isI, HVE.out]))⟩
             case measure => simp [intOf]; omega)
          · (go_wp2
             go_round
             case rel => exact ⟨k + 1, k, by omega, by go_num, rfl, Lib.hid (HT.out.trans (by simp [frStep, isI, HVE.out]))⟩
             case measure => simp [intOf]; omega)
      by_cases k2 : xk = 2
      · subst k2
        cases v
        · (go_wp2
           go_round
           case rel => exact ⟨k + 1, z, by omega, by go_num, rfl, Lib.hid (HT.out.trans (by rw [HA.out]; simp [frStep, isI, HVE.out]))⟩
           case measure => simp [intOf]; omega)
        · cases xs
          · (go_wp2
             go_round
             case rel => exact ⟨k + 1, -1, by omega, by go_num, rfl, Lib.hid (HT.out.trans (by simp [frStep, isI, HVE.out]))⟩
             case measure => simp [intOf]; omega)
          · (go_wp2
             go_round
             case rel => exact ⟨k + 1, k, by omega, by go_num, rfl, Lib.hid (HT.out.trans (by simp [frStep, isI, HVE.out]))⟩
             case measure => simp [intOf]; omega)
      have k1b : (xk == 1) = false := by simpa using k1
      have k2b : (xk == 2) = false := by simpa using k2
      by_cases k3 : xk = 3
      · subst k3
        (go_wp2
         go_round
         case rel => exact ⟨k + 1, -1, by omega, by go_num, rfl, Lib.hid (HT.out.trans (by simp [frStep]))⟩
         case measure => simp [intOf]; omega)
      have k3b : (xk == 3) = false := by simpa using k3
      have HK := Lib.hid (And.intro k1 (And.intro k2 k3))
      clear k1 k2 k3
      (go_wp2
       go_round
       case rel => exact ⟨k + 1, z, by omega, by go_num, rfl, Lib.hid (HT.out.trans (by rw [HA.out]; simp [frStep, isI, HK.out.1, HK.out.2.1, HK.out.2.2]))⟩
       case measure => simp [intOf]; omega)
    · obtain rfl : k = n := by omega
      have hz := frTo_lt l p k
      rw [HA.out] at hz
      by_cases hz0 : 0 ≤ z
      · obtain ⟨j, rfl⟩ : ∃ j : Nat, z = (j : Int) := ⟨z.toNat, by omega⟩
        have hj : j < k := by omega
        obtain ⟨b, o, ⟨xd, xk, xp, xn, xs, xg⟩, rfl, hb, hx, c0, c1, c2, c3, c4, c5⟩ := h.ev hj
        dsimp only at c0 c1 c2 c3 c4 c5
        have hdx := HD.out _ (List.mem_of_getElem? hx)
        dsimp only at hdx
        have hw1 : IntKind.i64.wrap (day - xd) = day - xd := IntWalk.i64_in _ (by omega)
        have hF : freshB l p day = decide (day - xd ≤ 7) := by
          unfold freshB
          rw [HLEN.out, HA.out, if_pos hz0, Int.toNat_natCast, hx]
        have HF := Lib.hid (hF.symm.trans HZ.out)
        have hz1 : decide ((0 : Int) ≤ (j : Int)) = true := decide_eq_true hz0
        clear hx hF hdx
        go_wp2
        go_ret
        exact ⟨rfl, ret_bool HF.out⟩
      · have hF : freshB l p day = false := by
          unfold freshB
          rw [HLEN.out, HA.out, if_neg hz0]
        have HF := Lib.hid (hF.symm.trans HZ.out)
        have hz1 : decide ((0 : Int) ≤ z) = false := decide_eq_false hz0
        clear hF
        go_wp2
        go_ret
        exact ⟨rfl, ret_bool HF.out⟩

end Go.Proofs.Ytgjjjnofdjhikaa

/- Chapter 9, walks: Upto of the reference (events). -/
namespace Go.Proofs.Ytgjjjnofdjhikaa
open Go.RowKit

def upF (day : Int) (x : Ev) : Bool := decide (x.d ≤ day)
theorem upF_step {l : List Ev} {k : Nat} {x : Ev} {day : Int} {F : List Ev} (hx : l[k]? = some x) (h : (l.take k).filter (upF day) = F) : (l.take (k + 1)).filter (upF day) = F ++ if x.d ≤ day then [x] else [] := by
  rw [take_step hx, List.filter_append, h]
  by_cases hd : x.d ≤ day <;> simp [upF, hd]
set_option maxRecDepth 100000 in
set_option maxHeartbeats 4000000 in
theorem refUptoE_any (A : Option Addr) (n c : Nat) (l : List Ev) (day : Int) (w : World) (h : Rws Ev.cs 6 w w.heap.size A n c l) (hn : n ≤ 1000) :
    Calls Try.prog 35 #[.slice A n c, .int .i64 day] w fun e w' => Below w.heap.size w w' ∧ ∃ v, e = .returned v ∧ w'.ownsRow w.heap.size 24 6 v (l.filter (upF day)).length ((l.filter (upF day)).flatMap Ev.cs) := by
  have hcap := h.cap
  have hmax := h.max
  have HLEN := Lib.hid h.len
  have H : Hid (∀ w', Below w.heap.size w w' → Rws Ev.cs 6 w' w.heap.size A n c l) := fun w' hb => h.below hb (Nat.le_refl _) (Nat.le_refl _)
  clear h
  go_enter Try.func35, Try.ntmps35
  go_wp2
  go_loopw [5, 6] (fun v i wr => ∃ k : Nat, k ≤ n ∧ i = .int .i64 k ∧ (∃ F : List Ev, Hid ((l.take k).filter (upF day) = F) ∧ wr.ownsRow w.heap.size 24 6 v F.length (F.flatMap Ev.cs)) ∧ Below w.heap.size w wr) (fun _ i _ => n - (intOf i).toNat)
  case atStart => exact ⟨0, Nat.zero_le _, rfl, ⟨[], Lib.hid rfl, World.ownsRow_nil _ _ _ _⟩, (by repeat (first | with_reducible exact Below.refl _ _ | with_reducible assumption | with_reducible refine Below.drew ?_ | with_reducible refine Below.drewN ?_ _ | with_reducible refine Below.alloc2 ?_ _ | with_reducible refine Below.alloc ?_ (by first | omega | (simp <;> omega)) _ | with_reducible refine Below.setCell ?_ (by first | omega | (simp <;> omega)) _ | with_reducible refine Below.step2 (by with_reducible assumption) ?_ | with_reducible refine Below.step (by with_reducible assumption) ?_ (by first | omega | (simp <;> omega))))⟩
  case round =>
    obtain ⟨k, hk, rfl, ⟨F, HF, hown⟩, hb⟩ := hrel
    have HB := Lib.hid hb
    have HOWN := Lib.hid hown
    have ow := hb.size
    have hfl : F.length ≤ 1000 := by
      have := List.length_filter_le (upF day) (l.take k)
      rw [HF.out, List.length_take] at this
      omega
    clear hown
    by_cases hlt : k < n
    · obtain ⟨b, o, ⟨xd, xk, xp, xn, xs, xg⟩, rfl, hbb, hx, c0, c1, c2, c3, c4, c5⟩ := (H.out _ hb).ev hlt
      dsimp only at c0 c1 c2 c3 c4 c5
      have ob : b < wr.heap.size := by omega
      have HT := Lib.hid (upF_step (day := day) hx HF.out)
      clear hx hb
      by_cases hd : xd ≤ day
      · have HN : Hid ((l.take (k + 1)).filter (upF day) = F ++ [(⟨xd, xk, xp, xn, xs, xg⟩ : Ev)]) := Lib.hid (HT.out.trans (by rw [if_pos hd]))
        go_wp2_with (at_builtin; go_loud (refine app_ev (W := F) (H := [(⟨xd, xk, xp, xn, xs, xg⟩ : Ev)]) (base := w.heap.size) (B := wr.heap.size + 1) ((HOWN.out).alloc _) rfl _ _ rfl rfl rfl (Bk.rowE (x := (⟨xd, xk, xp, xn, xs, xg⟩ : Ev)) (g := wr.heap.size) (Bk.alloc_ _ _ _) (by omega)) (by omega) (by simp; omega) ?_; intro v2 w2 ho2 hg2; have HO2 := Lib.hid ho2; have HB2 : Hid (Below w.heap.size w w2) := Lib.hid (Below.grown_ (by have hb0 := HB.out; exact (by repeat (first | with_reducible exact Below.refl _ _ | with_reducible assumption | with_reducible refine Below.drew ?_ | with_reducible refine Below.drewN ?_ _ | with_reducible refine Below.alloc2 ?_ _ | with_reducible refine Below.alloc ?_ (by first | omega | (simp <;> omega)) _ | with_reducible refine Below.setCell ?_ (by first | omega | (simp <;> omega)) _ | with_reducible refine Below.step2 (by with_reducible assumption) ?_ | with_reducible refine Below.step (by with_reducible assumption) ?_ (by first | omega | (simp <;> omega))))) hg2 (by simp; omega) (fun q hq => (HOWN.out.lt q hq).1)); clear ho2 hg2))
        go_roundw
        case rel => exact ⟨k + 1, by omega, by go_num, ⟨_, HN, HO2.out⟩, HB2.out⟩
        case measure => simp [intOf]; omega
      · have HN : Hid ((l.take (k + 1)).filter (upF day) = F) := Lib.hid (HT.out.trans (by rw [if_neg hd, List.append_nil]))
        go_wp2
        go_roundw
        case rel => exact ⟨k + 1, by omega, by go_num, ⟨F, HN, HOWN.out⟩, HB.out⟩
        case measure => simp [intOf]; omega
    · obtain rfl : k = n := by omega
      have HFF : Hid (l.filter (upF day) = F) := Lib.hid (by have := HF.out; rwa [List.take_of_length_le (by rw [HLEN.out]; omega)] at this)
      clear hb
      go_wp2
      go_ret
      refine ⟨HB.out, _, rfl, ?_⟩
      rw [HFF.out]
      exact HOWN.out

end Go.Proofs.Ytgjjjnofdjhikaa

/- Chapter 9, walks: opened of the reference (grave defects, or light ones). -/
namespace Go.Proofs.Ytgjjjnofdjhikaa
open Go.RowKit

def isG (g : Bool) (p : ByteArray) (x : Ev) : Bool := isD p x && (x.gr == g)
def olistG (g : Bool) : List Ev → ByteArray → List Int
  | [], _ => []
  | x :: r, p => if isG g p x && !repIn r p x.n then x.n :: olistG g r p else olistG g r p
theorem olistG_len (g : Bool) : ∀ (l : List Ev) (p : ByteArray), (olistG g l p).length ≤ l.length
  | [], _ => Nat.le_refl _
  | x :: r, p => by
    have := olistG_len g r p
    simp only [olistG]
    split <;> simp <;> omega
/-- The numbers told by the first events, as the rest of the record is. -/
def oToG (g : Bool) (l : List Ev) (p : ByteArray) : Nat → List Int
  | 0 => []
  | k + 1 => oToG g l p k ++ (match l[k]? with | some x => if isG g p x && !repIn (l.drop (k + 1)) p x.n then [x.n] else [] | none => [])
theorem oToG_drop (g : Bool) (l : List Ev) (p : ByteArray) : ∀ k, k ≤ l.length → oToG g l p k ++ olistG g (l.drop k) p = olistG g l p
  | 0, _ => by simp [oToG]
  | k + 1, hk => by
    have ih := oToG_drop g l p k (by omega)
    have hx : l[k]? = some (l[k]'(by omega)) := List.getElem?_eq_getElem (by omega)
    rw [← ih, drop_step hx]
    simp only [oToG, hx, olistG, List.append_assoc]
    congr 1
    split <;> rfl
theorem oToG_all (g : Bool) (l : List Ev) (p : ByteArray) : oToG g l p l.length = olistG g l p := by
  have := oToG_drop g l p l.length (Nat.le_refl _)
  simpa [olistG] using this
theorem oToG_len (g : Bool) (l : List Ev) (p : ByteArray) (k : Nat) (hk : k ≤ l.length) : (oToG g l p k).length ≤ l.length := by
  have h := congrArg List.length (oToG_drop g l p k hk)
  rw [List.length_append] at h
  have := olistG_len g l p
  omega
set_option maxRecDepth 100000 in
set_option maxHeartbeats 16000000 in
theorem opened_grave (g : Bool) (A : Option Addr) (n c : Nat) (l : List Ev) (p : ByteArray) (w : World) (h : Rws Ev.cs 6 w w.heap.size A n c l) (hn : n ≤ 500) :
    Calls Try.prog 41 #[.slice A n c, .string p, .bool g, .bool false] w fun e w' => Below w.heap.size w w' ∧ ∃ A' m c', e = .returned (.slice A' m c') ∧ Nums w' w'.heap.size A' m c' (olistG g l p) := by
  have hcap := h.cap
  have hmax := h.max
  have HLEN := Lib.hid h.len
  have H : Hid (∀ w', Below w.heap.size w w' → Rws Ev.cs 6 w' w.heap.size A n c l) := fun w' hb => h.below hb (Nat.le_refl _) (Nat.le_refl _)
  obtain ⟨i0, z, hi0, hz0, hzs, hz1, hz2⟩ := info_cells info_int9
  have HI0 := Lib.hid hi0
  have HZ0 := Lib.hid hz0
  have HZ1 := Lib.hid hz1
  have HZ2 := Lib.hid hz2
  have HZS := Lib.hid hzs
  clear h hi0 hz0 hz1 hz2 hzs
  go_enter Try.func41, Try.ntmps41
  go_wp2
  go_loopw [9, 10, 11, 12] (fun v i _ _ wr => ∃ k : Nat, k ≤ n ∧ i = .int .i64 k ∧ (∃ m os, Hid (oToG g l p k = os) ∧ wr.ownsRow w.heap.size 3 1 v m (i64s os)) ∧ Below w.heap.size w wr) (fun _ i _ _ _ => n - (intOf i).toNat)
  case atStart => exact ⟨0, Nat.zero_le _, rfl, ⟨0, [], Lib.hid rfl, World.ownsRow_nil _ _ _ _⟩, (by repeat (first | with_reducible exact Below.refl _ _ | with_reducible assumption | with_reducible refine Below.drew ?_ | with_reducible refine Below.drewN ?_ _ | with_reducible refine Below.alloc2 ?_ _ | with_reducible refine Below.alloc ?_ (by first | omega | (simp <;> omega)) _ | with_reducible refine Below.setCell ?_ (by first | omega | (simp <;> omega)) _ | with_reducible refine Below.step2 (by with_reducible assumption) ?_ | with_reducible refine Below.step (by with_reducible assumption) ?_ (by first | omega | (simp <;> omega))))⟩
  case round =>
    obtain ⟨k, hk, rfl, ⟨m, os, HP, hown⟩, hb⟩ := hrel
    have HB := Lib.hid hb
    have HOWN := Lib.hid hown
    have ow := hb.size
    have hm : m ≤ 500 := by
      have h1 := hown.1
      rw [i64s_length, ← HP.out] at h1
      have h2 := oToG_len g l p k (by rw [HLEN.out]; exact hk)
      rw [HLEN.out] at h2
      omega
    clear hown
    by_cases hlt : k < n
    · obtain ⟨b, o, ⟨xd, xk, xp, xn, xs, xg⟩, rfl, hbb, hx, c0, c1, c2, c3, c4, c5⟩ := (H.out _ hb).ev hlt
      dsimp only at c0 c1 c2 c3 c4 c5
      have HX := Lib.hid hx
      have ob : b < wr.heap.size := by omega
      have HNO : Hid (isG g p ⟨xd, xk, xp, xn, xs, xg⟩ = false → oToG g l p (k + 1) = os) := Lib.hid fun h => by
        simp only [oToG, hx, h, Bool.false_and, Bool.false_eq_true, if_false, HP.out, List.append_nil]
      have HYES : Hid (isG g p ⟨xd, xk, xp, xn, xs, xg⟩ = true → ∀ R, (!repIn (l.drop (k + 1)) p xn) = R → oToG g l p (k + 1) = if R then os ++ [xn] else os) := Lib.hid fun h R hR => by
        simp only [oToG, hx, h, Bool.true_and, HP.out]
        rw [hR]
        cases R <;> simp
      clear hx hb
      by_cases h4 : xk = 4
      rotate_left
      · have h4b : (xk != 4) = true := by simpa using h4
        have HN2 := Lib.hid (HNO.out (by simp [isG, isD, h4]))
        clear h4
        go_wp2
        go_roundw
        case rel => exact ⟨k + 1, by omega, by go_num, ⟨m, os, HN2, HOWN.out⟩, HB.out⟩
        case measure => simp [intOf]; omega
      have h4b : (xk != 4) = false := by simpa using h4
      obtain ⟨v, hv⟩ : ∃ v, (xp.toList == p.toList) = v := ⟨_, rfl⟩
      obtain ⟨u, hu⟩ : ∃ u, (xg != g) = u := ⟨_, rfl⟩
      have hvd : isG g p ⟨xd, xk, xp, xn, xs, xg⟩ = (v && !u) := by rw [← hv, ← hu]; simp only [isG, isD, h4, eqS, decide_true, Bool.true_and]; cases xg <;> cases g <;> rfl
      have HVD := Lib.hid hvd
      clear h4 hvd
      cases v
      · have HN2 := Lib.hid (HNO.out HVD.out)
        go_wp2
        go_roundw
        case rel => exact ⟨k + 1, by omega, by go_num, ⟨m, os, HN2, HOWN.out⟩, HB.out⟩
        case measure => simp [intOf]; omega
      cases u
      rotate_left
      · obtain rfl : xg = !g := by revert hu; cases xg <;> cases g <;> simp
        clear hu
        have HN2 := Lib.hid (HNO.out HVD.out)
        go_wp2
        go_roundw
        case rel => exact ⟨k + 1, by omega, by go_num, ⟨m, os, HN2, HOWN.out⟩, HB.out⟩
        case measure => simp [intOf]; omega
      · obtain rfl : xg = g := by revert hu; cases xg <;> cases g <;> simp
        clear hu
        obtain ⟨R, hR⟩ : ∃ R, (!repIn (l.drop (k + 1)) p xn) = R := ⟨_, rfl⟩
        have HRR := Lib.hid hR
        have HY2 := Lib.hid (HYES.out HVD.out R hR)
        clear hR
        obtain ⟨wo, rfl⟩ : ∃ x, x = wr := ⟨_, rfl⟩
        go_wp2
        go_loopw [11, 12] (fun bb q wq => ∃ j : Nat, j ≤ n ∧ q = .int .i64 j ∧ (∃ bv : Bool, bb = .bool bv ∧ Hid ((bv && !repIn (l.drop j) p xn) = R)) ∧ Below wo.heap.size wo wq) (fun _ q _ => n - (intOf q).toNat)
        case atStart => exact ⟨k + 1, by omega, by go_num, ⟨true, rfl, Lib.hid (by simpa using HRR.out)⟩, Below.refl _ _⟩
        case round =>
          obtain ⟨wq, rfl⟩ : ∃ x, x = wr := ⟨_, rfl⟩
          obtain ⟨j, hj, rfl, ⟨bv, rfl, HBV⟩, hb2⟩ := hrel
          have HB2 := Lib.hid (HB.out.trans (hb2.mono HB.out.size))
          have ow2 := hb2.size
          have HOWN2 := Lib.hid (own_step HOWN.out hb2)
          have HBQ := Lib.hid hb2
          by_cases hlt2 : j < n
          · obtain ⟨b', o', ⟨yd, yk, yp, yn, ys, yg⟩, e, hbb', hy, d0, d1, d2, d3, d4, d5⟩ := (H.out _ HB2.out).ev hlt2
            obtain ⟨rfl, rfl⟩ : b = b' ∧ o = o' := by simpa using e
            dsimp only at d0 d1 d2 d3 d4 d5
            have hc3 : wq.cell? ⟨b, o + k * 6 + 3, none⟩ = some (.int .i64 xn) := ((bcell hb2).1 _ _ ob).trans c3
            have hst := repIn_step hy p xn
            have ob2 : b < wq.heap.size := by omega
            have z1 : (0 : Int) ≤ (j : Int) := by omega
            have z2 : (j : Int) < (n : Int) := by omega
            have z3 : (0 : Int) ≤ (k : Int) := by omega
            have z4 : (k : Int) < (n : Int) := by omega
            obtain ⟨v1, hv1⟩ : ∃ v, (yk == 5) = v := ⟨_, rfl⟩
            obtain ⟨v2, hv2⟩ : ∃ v, (yp.toList == p.toList) = v := ⟨_, rfl⟩
            obtain ⟨v3, hv3⟩ : ∃ v, (yn == xn) = v := ⟨_, rfl⟩
            have hre : isRe p xn ⟨yd, yk, yp, yn, ys, yg⟩ = (v1 && (v2 && v3)) := by
              rw [← hv1, ← hv2, ← hv3]
              simp only [isRe, eqS]
              rw [show decide (yk = 5) = (yk == 5) by by_cases h : yk = 5 <;> simp [h], show decide (yn = xn) = (yn == xn) by by_cases h : yn = xn <;> simp [h]]
            rw [hre] at hst
            have HST := Lib.hid hst
            clear e hy hb2 hst hre c0 c1 c2 c3 c4 c5 hbb hbb'
            by_cases hall : (v1 && (v2 && v3)) = true
            · obtain ⟨rfl, rfl, rfl⟩ : v1 = true ∧ v2 = true ∧ v3 = true := by simpa using hall
              clear hall
              go_wp2
              go_quiet (fail)
              go_wp2
              go_roundw
              case rel =>
                have hb0 := HBQ.out
                exact ⟨j + 1, by omega, by go_num, ⟨false, rfl, Lib.hid (by rw [← HBV.out, HST.out]; simp)⟩, (by repeat (first | with_reducible exact Below.refl _ _ | with_reducible assumption | with_reducible refine Below.drew ?_ | with_reducible refine Below.drewN ?_ _ | with_reducible refine Below.alloc2 ?_ _ | with_reducible refine Below.alloc ?_ (by first | omega | (simp <;> omega)) _ | with_reducible refine Below.setCell ?_ (by first | omega | (simp <;> omega)) _ | with_reducible refine Below.step2 (by with_reducible assumption) ?_ | with_reducible refine Below.step (by with_reducible assumption) ?_ (by first | omega | (simp <;> omega))))⟩
              case measure => simp [intOf]; omega
            · have HST2 : Hid (repIn (l.drop j) p xn = repIn (l.drop (j + 1)) p xn) := Lib.hid (by
                have := HST.out
                rw [show (v1 && (v2 && v3)) = false by simpa using hall] at this
                simpa using this)
              cases v1
              · go_wp2
                go_quiet (fail)
                go_wp2
                go_roundw
                case rel =>
                  have hb0 := HBQ.out
                  exact ⟨j + 1, by omega, by go_num, ⟨bv, rfl, Lib.hid (by rw [← HST2.out]; exact HBV.out)⟩, (by repeat (first | with_reducible exact Below.refl _ _ | with_reducible assumption | with_reducible refine Below.drew ?_ | with_reducible refine Below.drewN ?_ _ | with_reducible refine Below.alloc2 ?_ _ | with_reducible refine Below.alloc ?_ (by first | omega | (simp <;> omega)) _ | with_reducible refine Below.setCell ?_ (by first | omega | (simp <;> omega)) _ | with_reducible refine Below.step2 (by with_reducible assumption) ?_ | with_reducible refine Below.step (by with_reducible assumption) ?_ (by first | omega | (simp <;> omega))))⟩
                case measure => simp [intOf]; omega
              cases v2
              · go_wp2
                go_quiet (fail)
                go_wp2
                go_roundw
                case rel =>
                  have hb0 := HBQ.out
                  exact ⟨j + 1, by omega, by go_num, ⟨bv, rfl, Lib.hid (by rw [← HST2.out]; exact HBV.out)⟩, (by repeat (first | with_reducible exact Below.refl _ _ | with_reducible assumption | with_reducible refine Below.drew ?_ | with_reducible refine Below.drewN ?_ _ | with_reducible refine Below.alloc2 ?_ _ | with_reducible refine Below.alloc ?_ (by first | omega | (simp <;> omega)) _ | with_reducible refine Below.setCell ?_ (by first | omega | (simp <;> omega)) _ | with_reducible refine Below.step2 (by with_reducible assumption) ?_ | with_reducible refine Below.step (by with_reducible assumption) ?_ (by first | omega | (simp <;> omega))))⟩
                case measure => simp [intOf]; omega
              cases v3
              · go_wp2
                go_quiet (fail)
                go_wp2
                go_roundw
                case rel =>
                  have hb0 := HBQ.out
                  exact ⟨j + 1, by omega, by go_num, ⟨bv, rfl, Lib.hid (by rw [← HST2.out]; exact HBV.out)⟩, (by repeat (first | with_reducible exact Below.refl _ _ | with_reducible assumption | with_reducible refine Below.drew ?_ | with_reducible refine Below.drewN ?_ _ | with_reducible refine Below.alloc2 ?_ _ | with_reducible refine Below.alloc ?_ (by first | omega | (simp <;> omega)) _ | with_reducible refine Below.setCell ?_ (by first | omega | (simp <;> omega)) _ | with_reducible refine Below.step2 (by with_reducible assumption) ?_ | with_reducible refine Below.step (by with_reducible assumption) ?_ (by first | omega | (simp <;> omega))))⟩
                case measure => simp [intOf]; omega
              · exact absurd rfl hall
          · have HBR : Hid (bv = R) := Lib.hid (by
              rw [← HBV.out, List.drop_eq_nil_of_le (by rw [HLEN.out]; omega)]
              simp [repIn])
            have hc3 : wq.cell? ⟨b, o + k * 6 + 3, none⟩ = some (.int .i64 xn) := ((bcell hb2).1 _ _ ob).trans c3
            have ob2 : b < wq.heap.size := by omega
            clear hb2 c0 c1 c2 c3 c4 c5
            cases bv
            · obtain rfl : R = false := HBR.out.symm
              go_wp2
              go_roundw
              case rel => exact ⟨k + 1, by omega, by go_num, ⟨m, os, Lib.hid HY2.out, HOWN2.out⟩, HB2.out⟩
              case measure => simp [intOf]; omega
            · obtain rfl : R = true := HBR.out.symm
              go_wp2_with (at_builtin; refine wpList_append_own_at _ rfl _ _ _ rfl w.heap.size 3 i0 _ 1 8 Try.underlying40 HI0.out HZ0.out HZ1.out HZ2.out HZS.out (by omega) _ m (i64s os) rfl ((HOWN2.out).alloc _) ⟨wq.heap.size, 0, none⟩ 1 1 [.int .i64 xn] rfl rfl (World.news_of_block (cs := #[.int .i64 xn]) (t := 3) (fr := (0, 0)) (heap_alloc_new wq _)) (by intro u hu; simp at hu; subst hu; rfl) (by unfold maxLen; omega) (by omega) (by simp; omega) ?_; intro v1 w1 hown1 hg1 _ _; have HO1 := Lib.hid hown1; have HG1 := Lib.hid hg1; clear hown1 hg1)
              go_roundw
              case rel =>
                have hb0 := HB2.out
                refine ⟨k + 1, by omega, by go_num, ⟨m + 1, os ++ [xn], Lib.hid HY2.out, ?_⟩, ?_⟩
                · have := HO1.out
                  simpa [i64s] using this
                · exact Below.grown_ (hb0.alloc hb0.size _) HG1.out (by simp; omega) (fun q hq => by have := (HOWN2.out.lt _ hq).1; omega)
              case measure => simp [intOf]; omega
    · have HE : Hid (olistG g l p = os) := Lib.hid (by
        have := HP.out
        rw [show k = l.length by rw [HLEN.out]; omega, oToG_all] at this
        exact this)
      obtain ⟨A', c', rfl, hs, -⟩ := Sl.of_own HOWN.out
      have HSL := Lib.hid hs
      clear hs
      go_wp2
      go_ret
      refine ⟨HB.out, A', m, c', rfl, ?_⟩
      rw [HE.out]
      exact ⟨HSL.out⟩

end Go.Proofs.Ytgjjjnofdjhikaa
