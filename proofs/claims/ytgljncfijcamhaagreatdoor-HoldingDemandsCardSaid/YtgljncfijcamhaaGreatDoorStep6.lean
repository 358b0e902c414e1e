/- Chapter 6, walks: the step to which a position belongs, on both sides. -/
import Derived.Test.YtgljncfijcamhaaGreatDoorRefGround6
namespace Go.Proofs.YtgljncfijcamhaaGreatDoor
open Go.RowKit

def hitB (X : Int) (x : Gr) (last : Bool) : Bool := (decide (x.a ≤ X) && decide (X < x.b)) || (last && decide (X = x.b))
def stepIx (X : Int) : List Gr → Option Nat
  | [] => none
  | x :: r => if hitB X x r.isEmpty then some 0 else (stepIx X r).map (· + 1)
theorem stepIx_cons (X : Int) (x : Gr) (r : List Gr) : stepIx X (x :: r) = if hitB X x r.isEmpty then some 0 else (stepIx X r).map (· + 1) := rfl
theorem isEmpty_drop {l : List Gr} {k n : Nat} (hn : l.length = n) (hk : k < n) {b : Bool} (hb : decide (k + 1 = n) = b) : (l.drop (k + 1)).isEmpty = b := by
  rw [← hb]
  by_cases h : k + 1 = n
  · rw [List.drop_eq_nil_of_le (by omega)]; simp [h]
  · have : (l.drop (k + 1)).length ≠ 0 := by rw [List.length_drop]; omega
    cases hd : l.drop (k + 1) with
    | nil => rw [hd] at this; simp at this
    | cons y r => simp [h]
theorem stepIx_hit {X : Int} {l : List Gr} {k : Nat} {x : Gr} (hx : l[k]? = some x) (h : stepIx X l = (stepIx X (l.drop k)).map (· + k)) (h1 : hitB X x (l.drop (k + 1)).isEmpty = true) : stepIx X l = some k := by
  rw [h, drop_step hx, stepIx_cons, h1]; simp
theorem stepIx_next {X : Int} {l : List Gr} {k : Nat} {x : Gr} (hx : l[k]? = some x) (h : stepIx X l = (stepIx X (l.drop k)).map (· + k)) (h1 : hitB X x (l.drop (k + 1)).isEmpty = false) : stepIx X l = (stepIx X (l.drop (k + 1))).map (· + (k + 1)) := by
  rw [h, drop_step hx, stepIx_cons, h1]
  simp only [Bool.false_eq_true, if_false, Option.map_map]
  congr 1
  funext i
  simp; omega
theorem stepIx_end {X : Int} {l : List Gr} {k : Nat} (hk : l.length ≤ k) (h : stepIx X l = (stepIx X (l.drop k)).map (· + k)) : stepIx X l = none := by
  rw [h, List.drop_eq_nil_of_le hk]; rfl
theorem stepIx_lt {X : Int} : ∀ {l : List Gr} {k : Nat}, stepIx X l = some k → k < l.length
  | [], k, h => by simp [stepIx] at h
  | x :: r, k, h => by
    rw [stepIx_cons] at h
    split at h
    · cases h; simp
    · cases hr : stepIx X r with
      | none => rw [hr] at h; simp at h
      | some j => rw [hr] at h; simp at h; have := stepIx_lt hr; simp; omega
def stepRes (X : Int) (l : List Gr) : Gr × Bool := match stepIx X l with
  | some k => (l.getD k ⟨0, 0, 0, 0⟩, true)
  | none => (⟨0, 0, 0, 0⟩, false)
def stepNo (X : Int) (l : List Gr) : Int := match stepIx X l with
  | some k => k
  | none => -1
def grV (g : Gr) : Value := .agg #[.int .i64 g.a, .int .i64 g.b, .int .i64 g.c, .int .i64 g.d]
theorem stepRes_some {X : Int} {l : List Gr} {k : Nat} {x : Gr} (hx : l[k]? = some x) (h : stepIx X l = some k) : stepRes X l = (x, true) := by
  unfold stepRes; rw [h]; simp [List.getD_eq_getElem?_getD, hx]
theorem stepRes_none {X : Int} {l : List Gr} (h : stepIx X l = none) : stepRes X l = (⟨0, 0, 0, 0⟩, false) := by unfold stepRes; rw [h]
theorem stepNo_some {X : Int} {l : List Gr} {k : Nat} (h : stepIx X l = some k) : stepNo X l = k := by unfold stepNo; rw [h]
theorem stepNo_none {X : Int} {l : List Gr} (h : stepIx X l = none) : stepNo X l = -1 := by unfold stepNo; rw [h]

set_option maxHeartbeats 8000000 in
theorem stepAt_any (A : Option Addr) (n c : Nat) (l : List Gr) (X : Int) (w : World) (h : Grs w w.heap.size A n c l) :
    Calls Tryz.prog 106 #[.slice A n c, .int .i64 X] w fun e w' => Below w.heap.size w w' ∧ e = .returned (.tuple #[grV (stepRes X l).1, .bool (stepRes X l).2]) := by
  have hcap := h.cap
  have hmax := h.max
  have HLEN := Lib.hid h.len
  have H : Hid (∀ w', Below w.heap.size w w' → Grs w' w.heap.size A n c l) := fun w' hb => h.below hb (Nat.le_refl _) (Nat.le_refl _)
  clear h
  obtain ⟨R, hR⟩ : ∃ R, stepRes X l = R := ⟨_, rfl⟩
  go_enter Tryz.func106, Tryz.ntmps106
  go_wp2
  go_loopw [6, 7, 10] (fun _ _ i wr => ∃ k : Nat, k ≤ n ∧ i = .int .i64 k ∧ Hid (stepIx X l = (stepIx X (l.drop k)).map (· + k)) ∧ Below w.heap.size w wr ∧ ∃ z0 z1 z2 z3 : Value, Bk wr w.heap.size 115 #[z0, z1, z2, z3]) (fun _ _ i _ => n - (intOf i).toNat)
  case atStart => exact ⟨0, Nat.zero_le _, rfl, Lib.hid (by simp), (by repeat (first | with_reducible exact Below.refl _ _ | with_reducible assumption | with_reducible refine Below.drew ?_ | with_reducible refine Below.drewN ?_ _ | with_reducible refine Below.alloc2 ?_ _ | with_reducible refine Below.alloc ?_ (by first | omega | (simp <;> omega)) _ | with_reducible refine Below.setCell ?_ (by first | omega | (simp <;> omega)) _ | with_reducible refine Below.step2 (by with_reducible assumption) ?_ | with_reducible refine Below.step (by with_reducible assumption) ?_ (by first | omega | (simp <;> omega)))), _, _, _, _, (by repeat (first | with_reducible assumption | with_reducible exact Bk.at_ (by first | (simp; done) | omega) | with_reducible refine Bk.alloc ?_ _ | with_reducible refine Bk.drew ?_ | with_reducible refine Bk.drewN ?_ _ | with_reducible refine Bk.step (by with_reducible assumption) ?_ (by first | omega | (simp <;> omega))))⟩
  case round =>
    obtain ⟨k, hk, rfl, HV, hb, z0, z1, z2, z3, hbk⟩ := hrel
    have HB := Lib.hid hb
    have ow := hb.size
    have oz : w.heap.size < wr.heap.size := hbk.lt
    obtain ⟨r0, r1, r2, r3⟩ := hbk.fourc
    have f0 := hbk.frozen 0
    have f1 := hbk.frozen 1
    have f2 := hbk.frozen 2
    have f3 := hbk.frozen 3
    by_cases hlt : k < n
    · obtain ⟨b, o, ⟨xa, xb, xc, xd⟩, rfl, hbb, hx, c0, c1, c2, c3⟩ := (H.out _ hb).at_ hlt
      have ob : b < wr.heap.size := by omega
      have obn : b ≠ w.heap.size := by omega
      clear hb
      have HX := Lib.hid hx
      clear hx
      dsimp only at c0 c1 c2 c3
      obtain ⟨N, hN⟩ : ∃ N, n = N + 1 := ⟨n - 1, by omega⟩
      have hwn : IntKind.i64.wrap ((n : Int) - 1) = (N : Int) := by rw [IntWalk.i64_in _ (by omega)]; omega
      have HN := Lib.hid hN
      clear hN
      obtain ⟨lb, hlb⟩ : ∃ v, decide (k = N) = v := ⟨_, rfl⟩
      have HE : Hid ((l.drop (k + 1)).isEmpty = lb) := Lib.hid (isEmpty_drop HLEN.out hlt (by rw [← hlb]; have := HN.out; by_cases h : k = N <;> simp [h] <;> omega))
      have hkN : (k == N) = lb := by rw [← hlb]; by_cases h : k = N <;> simp [h]
      have hkI : ((k : Int) == (N : Int)) = lb := by rw [← hlb]; by_cases h : k = N <;> simp [h] <;> omega
      obtain ⟨v1, h1⟩ : ∃ v, decide (xa ≤ X) = v := ⟨_, rfl⟩
      obtain ⟨v2, h2⟩ : ∃ v, decide (X < xb) = v := ⟨_, rfl⟩
      obtain ⟨v3, h3⟩ : ∃ v, decide (X = xb) = v := ⟨_, rfl⟩
      have h3b : (X == xb) = v3 := by rw [← h3]; by_cases h : X = xb <;> simp [h]
      have HH : Hid (hitB X ⟨xa, xb, xc, xd⟩ (l.drop (k + 1)).isEmpty = ((v1 && v2) || (lb && v3))) := Lib.hid (by rw [HE.out]; simp [hitB, h1, h2, h3])
      have H3 := Lib.hid h3
      clear h3 hlb
      cases v1
      · cases lb
        · cases v2
          · (
                        go_wp2
                        go_roundw
                        case rel =>
                          have hb0 := HB.out
                          exact ⟨k + 1, by omega, by go_num, Lib.hid (stepIx_next HX.out HV.out (by rw [HH.out]; rfl)), (by repeat (first | with_reducible exact Below.refl _ _ | with_reducible assumption | with_reducible refine Below.drew ?_ | with_reducible refine Below.drewN ?_ _ | with_reducible refine Below.alloc2 ?_ _ | with_reducible refine Below.alloc ?_ (by first | omega | (simp <;> omega)) _ | with_reducible refine Below.setCell ?_ (by first | omega | (simp <;> omega)) _ | with_reducible refine Below.step2 (by with_reducible assumption) ?_ | with_reducible refine Below.step (by with_reducible assumption) ?_ (by first | omega | (simp <;> omega)))), _, _, _, _, (by repeat (first | with_reducible assumption | with_reducible exact Bk.at_ (by first | (simp; done) | omega) | with_reducible refine Bk.alloc ?_ _ | with_reducible refine Bk.drew ?_ | with_reducible refine Bk.drewN ?_ _ | with_reducible refine Bk.step (by with_reducible assumption) ?_ (by first | omega | (simp <;> omega))))⟩
                        case measure => (simp [intOf]; omega))
          · (
                        go_wp2
                        go_roundw
                        case rel =>
                          have hb0 := HB.out
                          exact ⟨k + 1, by omega, by go_num, Lib.hid (stepIx_next HX.out HV.out (by rw [HH.out]; rfl)), (by repeat (first | with_reducible exact Below.refl _ _ | with_reducible assumption | with_reducible refine Below.drew ?_ | with_reducible refine Below.drewN ?_ _ | with_reducible refine Below.alloc2 ?_ _ | with_reducible refine Below.alloc ?_ (by first | omega | (simp <;> omega)) _ | with_reducible refine Below.setCell ?_ (by first | omega | (simp <;> omega)) _ | with_reducible refine Below.step2 (by with_reducible assumption) ?_ | with_reducible refine Below.step (by with_reducible assumption) ?_ (by first | omega | (simp <;> omega)))), _, _, _, _, (by repeat (first | with_reducible assumption | with_reducible exact Bk.at_ (by first | (simp; done) | omega) | with_reducible refine Bk.alloc ?_ _ | with_reducible refine Bk.drew ?_ | with_reducible refine Bk.drewN ?_ _ | with_reducible refine Bk.step (by with_reducible assumption) ?_ (by first | omega | (simp <;> omega))))⟩
                        case measure => (simp [intOf]; omega))
        · cases v3
          · cases v2
            · (
                          go_wp2
                          go_roundw
                          case rel =>
                            have hb0 := HB.out
                            exact ⟨k + 1, by omega, by go_num, Lib.hid (stepIx_next HX.out HV.out (by rw [HH.out]; rfl)), (by repeat (first | with_reducible exact Below.refl _ _ | with_reducible assumption | with_reducible refine Below.drew ?_ | with_reducible refine Below.drewN ?_ _ | with_reducible refine Below.alloc2 ?_ _ | with_reducible refine Below.alloc ?_ (by first | omega | (simp <;> omega)) _ | with_reducible refine Below.setCell ?_ (by first | omega | (simp <;> omega)) _ | with_reducible refine Below.step2 (by with_reducible assumption) ?_ | with_reducible refine Below.step (by with_reducible assumption) ?_ (by first | omega | (simp <;> omega)))), _, _, _, _, (by repeat (first | with_reducible assumption | with_reducible exact Bk.at_ (by first | (simp; done) | omega) | with_reducible refine Bk.alloc ?_ _ | with_reducible refine Bk.drew ?_ | with_reducible refine Bk.drewN ?_ _ | with_reducible refine Bk.step (by with_reducible assumption) ?_ (by first | omega | (simp <;> omega))))⟩
                          case measure => (simp [intOf]; omega))
            · (
                          go_wp2
                          go_roundw
                          case rel =>
                            have hb0 := HB.out
                            exact ⟨k + 1, by omega, by go_num, Lib.hid (stepIx_next HX.out HV.out (by rw [HH.out]; rfl)), (by repeat (first | with_reducible exact Below.refl _ _ | with_reducible assumption | with_reducible refine Below.drew ?_ | with_reducible refine Below.drewN ?_ _ | with_reducible refine Below.alloc2 ?_ _ | with_reducible refine Below.alloc ?_ (by first | omega | (simp <;> omega)) _ | with_reducible refine Below.setCell ?_ (by first | omega | (simp <;> omega)) _ | with_reducible refine Below.step2 (by with_reducible assumption) ?_ | with_reducible refine Below.step (by with_reducible assumption) ?_ (by first | omega | (simp <;> omega)))), _, _, _, _, (by repeat (first | with_reducible assumption | with_reducible exact Bk.at_ (by first | (simp; done) | omega) | with_reducible refine Bk.alloc ?_ _ | with_reducible refine Bk.drew ?_ | with_reducible refine Bk.drewN ?_ _ | with_reducible refine Bk.step (by with_reducible assumption) ?_ (by first | omega | (simp <;> omega))))⟩
                          case measure => (simp [intOf]; omega))
          · cases v2
            · (
                          go_wp2
                          refine bodyPost_ret (v := .tuple #[.agg #[.int .i64 xa, .int .i64 xb, .int .i64 xc, .int .i64 xd], .bool true]) (by simp [results, Tryz.results106, go_sem, r0, r1, r2, r3, oz, World.cell?_alloc_lt]) rfl ?_
                          have hb0 := HB.out
                          refine ⟨(by repeat (first | with_reducible exact Below.refl _ _ | with_reducible assumption | with_reducible refine Below.drew ?_ | with_reducible refine Below.drewN ?_ _ | with_reducible refine Below.alloc2 ?_ _ | with_reducible refine Below.alloc ?_ (by first | omega | (simp <;> omega)) _ | with_reducible refine Below.setCell ?_ (by first | omega | (simp <;> omega)) _ | with_reducible refine Below.step2 (by with_reducible assumption) ?_ | with_reducible refine Below.step (by with_reducible assumption) ?_ (by first | omega | (simp <;> omega)))), ?_⟩
                          rw [stepRes_some HX.out (stepIx_hit HX.out HV.out (by rw [HH.out]; rfl))]
                          rfl)
            · (
                          go_wp2
                          refine bodyPost_ret (v := .tuple #[.agg #[.int .i64 xa, .int .i64 xb, .int .i64 xc, .int .i64 xd], .bool true]) (by simp [results, Tryz.results106, go_sem, r0, r1, r2, r3, oz, World.cell?_alloc_lt]) rfl ?_
                          have hb0 := HB.out
                          refine ⟨(by repeat (first | with_reducible exact Below.refl _ _ | with_reducible assumption | with_reducible refine Below.drew ?_ | with_reducible refine Below.drewN ?_ _ | with_reducible refine Below.alloc2 ?_ _ | with_reducible refine Below.alloc ?_ (by first | omega | (simp <;> omega)) _ | with_reducible refine Below.setCell ?_ (by first | omega | (simp <;> omega)) _ | with_reducible refine Below.step2 (by with_reducible assumption) ?_ | with_reducible refine Below.step (by with_reducible assumption) ?_ (by first | omega | (simp <;> omega)))), ?_⟩
                          rw [stepRes_some HX.out (stepIx_hit HX.out HV.out (by rw [HH.out]; rfl))]
                          rfl)
      · cases v2
        · cases lb
          · (
                        go_wp2
                        go_roundw
                        case rel =>
                          have hb0 := HB.out
                          exact ⟨k + 1, by omega, by go_num, Lib.hid (stepIx_next HX.out HV.out (by rw [HH.out]; rfl)), (by repeat (first | with_reducible exact Below.refl _ _ | with_reducible assumption | with_reducible refine Below.drew ?_ | with_reducible refine Below.drewN ?_ _ | with_reducible refine Below.alloc2 ?_ _ | with_reducible refine Below.alloc ?_ (by first | omega | (simp <;> omega)) _ | with_reducible refine Below.setCell ?_ (by first | omega | (simp <;> omega)) _ | with_reducible refine Below.step2 (by with_reducible assumption) ?_ | with_reducible refine Below.step (by with_reducible assumption) ?_ (by first | omega | (simp <;> omega)))), _, _, _, _, (by repeat (first | with_reducible assumption | with_reducible exact Bk.at_ (by first | (simp; done) | omega) | with_reducible refine Bk.alloc ?_ _ | with_reducible refine Bk.drew ?_ | with_reducible refine Bk.drewN ?_ _ | with_reducible refine Bk.step (by with_reducible assumption) ?_ (by first | omega | (simp <;> omega))))⟩
                        case measure => (simp [intOf]; omega))
          · cases v3
            · (
                          go_wp2
                          go_roundw
                          case rel =>
                            have hb0 := HB.out
                            exact ⟨k + 1, by omega, by go_num, Lib.hid (stepIx_next HX.out HV.out (by rw [HH.out]; rfl)), (by repeat (first | with_reducible exact Below.refl _ _ | with_reducible assumption | with_reducible refine Below.drew ?_ | with_reducible refine Below.drewN ?_ _ | with_reducible refine Below.alloc2 ?_ _ | with_reducible refine Below.alloc ?_ (by first | omega | (simp <;> omega)) _ | with_reducible refine Below.setCell ?_ (by first | omega | (simp <;> omega)) _ | with_reducible refine Below.step2 (by with_reducible assumption) ?_ | with_reducible refine Below.step (by with_reducible assumption) ?_ (by first | omega | (simp <;> omega)))), _, _, _, _, (by repeat (first | with_reducible assumption | with_reducible exact Bk.at_ (by first | (simp; done) | omega) | with_reducible refine Bk.alloc ?_ _ | with_reducible refine Bk.drew ?_ | with_reducible refine Bk.drewN ?_ _ | with_reducible refine Bk.step (by with_reducible assumption) ?_ (by first | omega | (simp <;> omega))))⟩
                          case measure => (simp [intOf]; omega))
            · (
                          go_wp2
                          refine bodyPost_ret (v := .tuple #[.agg #[.int .i64 xa, .int .i64 xb, .int .i64 xc, .int .i64 xd], .bool true]) (by simp [results, Tryz.results106, go_sem, r0, r1, r2, r3, oz, World.cell?_alloc_lt]) rfl ?_
                          have hb0 := HB.out
                          refine ⟨(by repeat (first | with_reducible exact Below.refl _ _ | with_reducible assumption | with_reducible refine Below.drew ?_ | with_reducible refine Below.drewN ?_ _ | with_reducible refine Below.alloc2 ?_ _ | with_reducible refine Below.alloc ?_ (by first | omega | (simp <;> omega)) _ | with_reducible refine Below.setCell ?_ (by first | omega | (simp <;> omega)) _ | with_reducible refine Below.step2 (by with_reducible assumption) ?_ | with_reducible refine Below.step (by with_reducible assumption) ?_ (by first | omega | (simp <;> omega)))), ?_⟩
                          rw [stepRes_some HX.out (stepIx_hit HX.out HV.out (by rw [HH.out]; rfl))]
                          rfl)
        · cases lb
          · (
                        go_wp2
                        refine bodyPost_ret (v := .tuple #[.agg #[.int .i64 xa, .int .i64 xb, .int .i64 xc, .int .i64 xd], .bool true]) (by simp [results, Tryz.results106, go_sem, r0, r1, r2, r3, oz, World.cell?_alloc_lt]) rfl ?_
                        have hb0 := HB.out
                        refine ⟨(by repeat (first | with_reducible exact Below.refl _ _ | with_reducible assumption | with_reducible refine Below.drew ?_ | with_reducible refine Below.drewN ?_ _ | with_reducible refine Below.alloc2 ?_ _ | with_reducible refine Below.alloc ?_ (by first | omega | (simp <;> omega)) _ | with_reducible refine Below.setCell ?_ (by first | omega | (simp <;> omega)) _ | with_reducible refine Below.step2 (by with_reducible assumption) ?_ | with_reducible refine Below.step (by with_reducible assumption) ?_ (by first | omega | (simp <;> omega)))), ?_⟩
                        rw [stepRes_some HX.out (stepIx_hit HX.out HV.out (by rw [HH.out]; rfl))]
                        rfl)
          · cases v3
            · (
                          go_wp2
                          refine bodyPost_ret (v := .tuple #[.agg #[.int .i64 xa, .int .i64 xb, .int .i64 xc, .int .i64 xd], .bool true]) (by simp [results, Tryz.results106, go_sem, r0, r1, r2, r3, oz, World.cell?_alloc_lt]) rfl ?_
                          have hb0 := HB.out
                          refine ⟨(by repeat (first | with_reducible exact Below.refl _ _ | with_reducible assumption | with_reducible refine Below.drew ?_ | with_reducible refine Below.drewN ?_ _ | with_reducible refine Below.alloc2 ?_ _ | with_reducible refine Below.alloc ?_ (by first | omega | (simp <;> omega)) _ | with_reducible refine Below.setCell ?_ (by first | omega | (simp <;> omega)) _ | with_reducible refine Below.step2 (by with_reducible assumption) ?_ | with_reducible refine Below.step (by with_reducible assumption) ?_ (by first | omega | (simp <;> omega)))), ?_⟩
                          rw [stepRes_some HX.out (stepIx_hit HX.out HV.out (by rw [HH.out]; rfl))]
                          rfl)
            · (
                          go_wp2
                          refine bodyPost_ret (v := .tuple #[.agg #[.int .i64 xa, .int .i64 xb, .int .i64 xc, .int .i64 xd], .bool true]) (by simp [results, Tryz.results106, go_sem, r0, r1, r2, r3, oz, World.cell?_alloc_lt]) rfl ?_
                          have hb0 := HB.out
                          refine ⟨(by repeat (first | with_reducible exact Below.refl _ _ | with_reducible assumption | with_reducible refine Below.drew ?_ | with_reducible refine Below.drewN ?_ _ | with_reducible refine Below.alloc2 ?_ _ | with_reducible refine Below.alloc ?_ (by first | omega | (simp <;> omega)) _ | with_reducible refine Below.setCell ?_ (by first | omega | (simp <;> omega)) _ | with_reducible refine Below.step2 (by with_reducible assumption) ?_ | with_reducible refine Below.step (by with_reducible assumption) ?_ (by first | omega | (simp <;> omega)))), ?_⟩
                          rw [stepRes_some HX.out (stepIx_hit HX.out HV.out (by rw [HH.out]; rfl))]
                          rfl)
    · have hre := Lib.hid (stepRes_none (stepIx_end (by rw [HLEN.out]; omega) HV.out))
      clear hb
      go_wp2
      refine bodyPost_ret (v := .tuple #[.agg #[.int .i64 0, .int .i64 0, .int .i64 0, .int .i64 0], .bool false]) (by simp [results, Tryz.results106, go_sem, r0, r1, r2, r3]) rfl ?_
      have hb0 := HB.out
      refine ⟨(by repeat (first | with_reducible exact Below.refl _ _ | with_reducible assumption | with_reducible refine Below.drew ?_ | with_reducible refine Below.drewN ?_ _ | with_reducible refine Below.alloc2 ?_ _ | with_reducible refine Below.alloc ?_ (by first | omega | (simp <;> omega)) _ | with_reducible refine Below.setCell ?_ (by first | omega | (simp <;> omega)) _ | with_reducible refine Below.step2 (by with_reducible assumption) ?_ | with_reducible refine Below.step (by with_reducible assumption) ?_ (by first | omega | (simp <;> omega)))), ?_⟩
      rw [hre.out]
      rfl

set_option maxHeartbeats 8000000 in
theorem refStepAt_any (A : Option Addr) (n c B : Nat) (l : List Gr) (X : Int) (w : World) (h : Grs w B A n c l) :
    Calls Tryz.prog 59 #[.slice A n c, .int .i64 X] w fun e w' => w = w' ∧ e = .returned (.int .i64 (stepNo X l)) := by
  have hcap := h.cap
  have hmax := h.max
  have HLEN := Lib.hid h.len
  go_enter Tryz.func59, Tryz.ntmps59
  go_wp2
  go_loop [5] (fun i => ∃ k : Nat, k ≤ n ∧ i = .int .i64 k ∧ Hid (stepIx X l = (stepIx X (l.drop k)).map (· + k))) (fun i => n - (intOf i).toNat)
  case atStart => exact ⟨0, Nat.zero_le _, rfl, Lib.hid (by simp)⟩
  case round =>
    obtain ⟨k, hk, rfl, HV⟩ := hrel
    by_cases hlt : k < n
    · obtain ⟨b, o, ⟨xa, xb, xc, xd⟩, rfl, hbb, hx, c0, c1, c2, c3⟩ := h.at_ hlt
      have HX := Lib.hid hx
      clear hx
      dsimp only at c0 c1 c2 c3
      obtain ⟨N, hN⟩ : ∃ N, n = N + 1 := ⟨n - 1, by omega⟩
      have hwn : IntKind.i64.wrap ((n : Int) - 1) = (N : Int) := by rw [IntWalk.i64_in _ (by omega)]; omega
      have HN := Lib.hid hN
      clear hN
      obtain ⟨lb, hlb⟩ : ∃ v, decide (k = N) = v := ⟨_, rfl⟩
      have HE : Hid ((l.drop (k + 1)).isEmpty = lb) := Lib.hid (isEmpty_drop HLEN.out hlt (by rw [← hlb]; have := HN.out; by_cases h : k = N <;> simp [h] <;> omega))
      have hkN : (k == N) = lb := by rw [← hlb]; by_cases h : k = N <;> simp [h]
      have hkI : ((k : Int) == (N : Int)) = lb := by rw [← hlb]; by_cases h : k = N <;> simp [h] <;> omega
      obtain ⟨v1, h1⟩ : ∃ v, decide (xa ≤ X) = v := ⟨_, rfl⟩
      obtain ⟨v2, h2⟩ : ∃ v, decide (X < xb) = v := ⟨_, rfl⟩
      obtain ⟨v3, h3⟩ : ∃ v, decide (X = xb) = v := ⟨_, rfl⟩
      have h3b : (X == xb) = v3 := by rw [← h3]; by_cases h : X = xb <;> simp [h]
      have HH : Hid (hitB X ⟨xa, xb, xc, xd⟩ (l.drop (k + 1)).isEmpty = ((v1 && v2) || (lb && v3))) := Lib.hid (by rw [HE.out]; simp [hitB, h1, h2, h3])
      have H3 := Lib.hid h3
      clear h3 hlb
      cases v1
      · cases lb
        · cases v2
          · (
                        go_wp2
                        go_round
                        case rel => exact ⟨k + 1, by omega, by go_num, Lib.hid (stepIx_next HX.out HV.out (by rw [HH.out]; rfl))⟩
                        case measure => (simp [intOf]; omega))
          · (
                        go_wp2
                        go_round
                        case rel => exact ⟨k + 1, by omega, by go_num, Lib.hid (stepIx_next HX.out HV.out (by rw [HH.out]; rfl))⟩
                        case measure => (simp [intOf]; omega))
        · cases v3
          · cases v2
            · (
                          go_wp2
                          go_round
                          case rel => exact ⟨k + 1, by omega, by go_num, Lib.hid (stepIx_next HX.out HV.out (by rw [HH.out]; rfl))⟩
                          case measure => (simp [intOf]; omega))
            · (
                          go_wp2
                          go_round
                          case rel => exact ⟨k + 1, by omega, by go_num, Lib.hid (stepIx_next HX.out HV.out (by rw [HH.out]; rfl))⟩
                          case measure => (simp [intOf]; omega))
          · cases v2
            · (
                          go_wp2
                          go_ret
                          refine ⟨rfl, ret_int ?_⟩
                          rw [stepNo_some (stepIx_hit HX.out HV.out (by rw [HH.out]; rfl))])
            · (
                          go_wp2
                          go_ret
                          refine ⟨rfl, ret_int ?_⟩
                          rw [stepNo_some (stepIx_hit HX.out HV.out (by rw [HH.out]; rfl))])
      · cases v2
        · cases lb
          · (
                        go_wp2
                        go_round
                        case rel => exact ⟨k + 1, by omega, by go_num, Lib.hid (stepIx_next HX.out HV.out (by rw [HH.out]; rfl))⟩
                        case measure => (simp [intOf]; omega))
          · cases v3
            · (
                          go_wp2
                          go_round
                          case rel => exact ⟨k + 1, by omega, by go_num, Lib.hid (stepIx_next HX.out HV.out (by rw [HH.out]; rfl))⟩
                          case measure => (simp [intOf]; omega))
            · (
                          go_wp2
                          go_ret
                          refine ⟨rfl, ret_int ?_⟩
                          rw [stepNo_some (stepIx_hit HX.out HV.out (by rw [HH.out]; rfl))])
        · cases lb
          · (
                        go_wp2
                        go_ret
                        refine ⟨rfl, ret_int ?_⟩
                        rw [stepNo_some (stepIx_hit HX.out HV.out (by rw [HH.out]; rfl))])
          · cases v3
            · (
                          go_wp2
                          go_ret
                          refine ⟨rfl, ret_int ?_⟩
                          rw [stepNo_some (stepIx_hit HX.out HV.out (by rw [HH.out]; rfl))])
            · (
                          go_wp2
                          go_ret
                          refine ⟨rfl, ret_int ?_⟩
                          rw [stepNo_some (stepIx_hit HX.out HV.out (by rw [HH.out]; rfl))])
    · have hre := Lib.hid (stepNo_none (stepIx_end (by rw [HLEN.out]; omega) HV.out))
      go_wp2
      go_ret
      refine ⟨rfl, ret_int ?_⟩
      rw [hre.out]

end Go.Proofs.YtgljncfijcamhaaGreatDoor
