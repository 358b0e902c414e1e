/- Chapter 6, walks: Datum of both sides. -/
import Derived.Test.YtgljncfijcamhaaGreatDoorJacks6
import Derived.Lib.MinMax
import Derived.BigQuiet
namespace Go.Proofs.YtgljncfijcamhaaGreatDoor
open Go.RowKit

def mxT (l : List Int) (k : Nat) : Int := (l.take k).foldl max (l.getD 0 0)
def mnT (l : List Int) (k : Nat) : Int := (l.take k).foldl min (l.getD 0 0)
theorem mxT_step {l : List Int} {k : Nat} {x : Int} (hx : l[k]? = some x) : mxT l (k + 1) = max (mxT l k) x := by
  unfold mxT; rw [List.take_add_one, hx]; simp
theorem mnT_step {l : List Int} {k : Nat} {x : Int} (hx : l[k]? = some x) : mnT l (k + 1) = min (mnT l k) x := by
  unfold mnT; rw [List.take_add_one, hx]; simp
theorem mxT_bd {l : List Int} {a b : Int} (h : ∀ x ∈ l, a ≤ x ∧ x ≤ b) (h0 : 1 ≤ l.length) : ∀ k, a ≤ mxT l k ∧ mxT l k ≤ b
  | 0 => by
    have : l[0]? = some l[0] := List.getElem?_eq_getElem (by omega)
    have h1 := h l[0] (List.getElem_mem _)
    simp [mxT, List.getD_eq_getElem?_getD, this, h1]
  | k + 1 => by
    have ih := mxT_bd h h0 k
    cases hx : l[k]? with
    | none =>
      have : mxT l (k + 1) = mxT l k := by unfold mxT; rw [List.take_add_one, hx]; simp
      rw [this]; exact ih
    | some x =>
      have h1 := h x (List.mem_of_getElem? hx)
      rw [mxT_step hx]; omega
theorem mnT_bd {l : List Int} {a b : Int} (h : ∀ x ∈ l, a ≤ x ∧ x ≤ b) (h0 : 1 ≤ l.length) : ∀ k, a ≤ mnT l k ∧ mnT l k ≤ b
  | 0 => by
    have : l[0]? = some l[0] := List.getElem?_eq_getElem (by omega)
    have h1 := h l[0] (List.getElem_mem _)
    simp [mnT, List.getD_eq_getElem?_getD, this, h1]
  | k + 1 => by
    have ih := mnT_bd h h0 k
    cases hx : l[k]? with
    | none =>
      have : mnT l (k + 1) = mnT l k := by unfold mnT; rw [List.take_add_one, hx]; simp
      rw [this]; exact ih
    | some x =>
      have h1 := h x (List.mem_of_getElem? hx)
      rw [mnT_step hx]; omega
set_option maxRecDepth 100000 in
set_option maxHeartbeats 8000000 in
theorem datum_some (f : Int) (A A2 T : Option Addr) (n c m c2 k0 ct : Nat) (lo hi so : Int) (ts : List Int) (w : World) (hn1 : 1 ≤ n) (hn : n ≤ 60) (hbt : ∀ x ∈ ts, -2000000 ≤ x ∧ x ≤ 2000000) (hlo : 0 ≤ lo ∧ lo ≤ 10000)
    (ct' : ∀ w', Below w.heap.size w w' → Calls Tryz.prog 55 #[.agg #[.int .i64 f, .slice A n c, .slice A2 m c2], .slice T k0 ct, .agg #[.int .i64 lo, .int .i64 hi, .int .i64 so]] w' fun e w'' => Below w'.heap.size w' w'' ∧ ∃ A' c', e = .returned (.tuple #[.slice A' n c', .int .i64 0]) ∧ Nums w'' w''.heap.size A' n c' ts) :
    Calls Tryz.prog 21 #[.agg #[.int .i64 f, .slice A n c, .slice A2 m c2], .slice T k0 ct, .agg #[.int .i64 lo, .int .i64 hi, .int .i64 so]] w fun e w' => Below w.heap.size w w' ∧ ((hi < mxT ts n + lo - mnT ts n ∧ e = .returned (.tuple #[.int .i64 0, .int .i64 20])) ∨ (¬ hi < mxT ts n + lo - mnT ts n ∧ e = .returned (.tuple #[.int .i64 (mxT ts n + lo), .int .i64 0]))) := by
  have C1 := Lib.hid ct'
  have HBT := Lib.hid hbt
  have hn0 : (0 : Int) < (n : Int) := by omega
  clear ct' hbt
  go_enter Tryz.func21, Tryz.ntmps21
  go_upto_region 4 with (first
        | (go_at_call 55; with_reducible refine (C1.out _ ?_).mono ?_; (focus (exact (by repeat (first | with_reducible exact Below.refl _ _ | with_reducible assumption | with_reducible refine Below.drew ?_ | with_reducible refine Below.drewN ?_ _ | with_reducible refine Below.alloc2 ?_ _ | with_reducible refine Below.alloc ?_ (by first | omega | (simp <;> omega)) _ | with_reducible refine Below.setCell ?_ (by first | omega | (simp <;> omega)) _ | with_reducible refine Below.step2 (by with_reducible assumption) ?_ | with_reducible refine Below.step (by with_reducible assumption) ?_ (by first | omega | (simp <;> omega)))))); rintro e wS ⟨hb1, A', c', rfl, hN⟩; have HNS := Lib.hid hN; have kj : Bk wS (w.heap.size + 1) 52 #[.int .i64 lo, .int .i64 hi, .int .i64 so] := (by repeat (first | with_reducible assumption | with_reducible exact Bk.at_ (by first | (simp; done) | omega) | with_reducible refine Bk.alloc ?_ _ | with_reducible refine Bk.drew ?_ | with_reducible refine Bk.drewN ?_ _ | with_reducible refine Bk.step (by with_reducible assumption) ?_ (by first | omega | (simp <;> omega)))); obtain ⟨⟨j0, j1, j2⟩, -⟩ := kj.three; have oz1 := hb1.size; (try simp at oz1); have HBJ := Lib.hid kj; have HBS : Hid (Below w.heap.size w wS) := Lib.hid (by exact (by repeat (first | with_reducible exact Below.refl _ _ | with_reducible assumption | with_reducible refine Below.drew ?_ | with_reducible refine Below.drewN ?_ _ | with_reducible refine Below.alloc2 ?_ _ | with_reducible refine Below.alloc ?_ (by first | omega | (simp <;> omega)) _ | with_reducible refine Below.setCell ?_ (by first | omega | (simp <;> omega)) _ | with_reducible refine Below.step2 (by with_reducible assumption) ?_ | with_reducible refine Below.step (by with_reducible assumption) ?_ (by first | omega | (simp <;> omega))))); clear hN kj))
  obtain ⟨b, o, x, rfl, hbb, hx, c0⟩ := HNS.out.at_ (show 0 < n by omega)
  have hcapg := HNS.out.cap
  have hmaxg := HNS.out.max
  have HM0 : Hid (mxT ts 0 = x) := Lib.hid (by simp [mxT, List.getD_eq_getElem?_getD, hx])
  have HN0 : Hid (mnT ts 0 = x) := Lib.hid (by simp [mnT, List.getD_eq_getElem?_getD, hx])
  have HLEN := Lib.hid HNS.out.len
  rw [Nat.add_zero] at c0
  clear hx
  go_quiet (fail)
  go_wp2
  have hq : Below wS.heap.size wS (wS.drewN nq) := (by repeat (first | with_reducible exact Below.refl _ _ | with_reducible assumption | with_reducible refine Below.drew ?_ | with_reducible refine Below.drewN ?_ _ | with_reducible refine Below.alloc2 ?_ _ | with_reducible refine Below.alloc ?_ (by first | omega | (simp <;> omega)) _ | with_reducible refine Below.setCell ?_ (by first | omega | (simp <;> omega)) _ | with_reducible refine Below.step2 (by with_reducible assumption) ?_ | with_reducible refine Below.step (by with_reducible assumption) ?_ (by first | omega | (simp <;> omega))))
  have HNQ := Lib.hid (HNS.out.below hq (Nat.le_refl _) (Nat.le_refl _))
  have HBQ := Lib.hid (HBS.out.trans (hq.mono HBS.out.size))
  have hjl := HBJ.out.lt
  obtain ⟨⟨j0, j1, j2⟩, -⟩ := Bk.three (show Bk (wS.drewN nq) (w.heap.size + 1) 52 #[.int .i64 lo, .int .i64 hi, .int .i64 so] from (hq.block _ hjl).trans HBJ.out)
  clear hq
  go_loop [10, 11, 13, 33] (fun p q _ y => ∃ k : Nat, k ≤ n ∧ y = .int .i64 k ∧ p = .int .i64 (mxT ts k) ∧ q = .int .i64 (mnT ts k)) (fun _ _ _ y => n - (intOf y).toNat)
  case atStart => exact ⟨0, Nat.zero_le _, rfl, by rw [HM0.out], by rw [HN0.out]⟩
  case round =>
    obtain ⟨k, hk, rfl, rfl, rfl⟩ := hrel
    by_cases hlt : k < n
    · obtain ⟨b', o', y, hbo, hbb2, hx, c1⟩ := HNQ.out.at_ hlt
      obtain ⟨rfl, rfl⟩ : b = b' ∧ o = o' := by simpa using hbo
      have HM := Lib.hid (mxT_step hx)
      have HN := Lib.hid (mnT_step hx)
      generalize mxT ts k = P at *
      generalize mnT ts k = Q at *
      clear hx hbo
      go_wp2
      go_round
      case rel => exact ⟨k + 1, by omega, by go_num, by rw [HM.out], by rw [HN.out]⟩
      case measure => (simp [intOf]; omega)
    · obtain rfl : k = n := by omega
      have h1 := mxT_bd HBT.out (by rw [HLEN.out]; omega) k
      have h2 := mnT_bd HBT.out (by rw [HLEN.out]; omega) k
      obtain ⟨P, hP⟩ : ∃ P, mxT ts k = P := ⟨_, rfl⟩
      obtain ⟨Q, hQ⟩ : ∃ Q, mnT ts k = Q := ⟨_, rfl⟩
      rw [hP] at h1
      rw [hQ] at h2
      have HP := Lib.hid hP
      have HQ := Lib.hid hQ
      rw [hP, hQ]
      clear hP hQ
      have hw1 : IntKind.i64.wrap (P + lo) = P + lo := IntWalk.i64_in _ (by omega)
      have hw2 : IntKind.i64.wrap (P + lo - Q) = P + lo - Q := IntWalk.i64_in _ (by omega)
      by_cases hd : hi < P + lo - Q
      · have HD := Lib.hid hd
        go_wp2
        refine bodyPost_ret (results_tmp2 rfl _ _ _) rfl ?_
        simp only [HP.out, HQ.out]
        exact ⟨HBQ.out, .inl ⟨HD.out, rfl⟩⟩
      · have HD := Lib.hid hd
        go_wp2
        refine bodyPost_ret (results_tmp2 rfl _ _ _) rfl ?_
        simp only [HP.out, HQ.out]
        exact ⟨HBQ.out, .inr ⟨HD.out, rfl⟩⟩

end Go.Proofs.YtgljncfijcamhaaGreatDoor
