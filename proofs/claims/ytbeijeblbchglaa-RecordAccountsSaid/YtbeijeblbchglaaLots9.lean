/- Chapter 9, walks: Lots of the program. -/
import Derived.Test.YtbeijeblbchglaaRefLotsT9
namespace Go.Proofs.Ytbeijeblbchglaa
open Go.RowKit Go.WideShapes Go.Deep

set_option maxRecDepth 100000 in
set_option maxHeartbeats 4000000 in
theorem lots_bad (T A : Option Addr) (tn tc n c : Nat) (t : List Q4) (l : List Mv) (w : World) (ht : Rws Q4.cs 4 w w.heap.size T tn tc t) (h : Rws Mv.cs 4 w w.heap.size A n c l) (hts : ∀ x ∈ t, x.s.size ≤ 30) (hs : ∀ x ∈ l, x.p.size ≤ 30) (hE : checkErr t l ≠ 0) :
    Calls Try.prog 24 #[.slice T tn tc, .slice A n c] w fun e w' => Below w.heap.size w w' ∧ e = .returned (.tuple #[.slice none 0 0, .int .i64 (checkErr t l)]) := by
  obtain ⟨E, hE1⟩ : ∃ E, checkErr t l = E := ⟨_, rfl⟩
  have CM : Hid (Calls Try.prog 26 #[.slice T tn tc, .slice A n c] w fun e w' => Below w.heap.size w w' ∧ e = .returned (.int .i64 E)) := Lib.hid (by have := checkMoves_any A T n c tn tc t l w ht h hts hs; rwa [hE1] at this)
  rw [hE1] at hE ⊢
  have h0b : (E != 0) = true := by simpa using hE
  clear h ht hts hs hE hE1
  go_enter Try.func24, Try.ntmps24
  go_wp2_with (go_at_call 26; refine CM.out.mono ?_; rintro e w1 ⟨hb1, rfl⟩; have HB1 := Lib.hid hb1; clear hb1)
  go_ret2
  exact ⟨HB1.out, rfl⟩
set_option maxRecDepth 100000 in
set_option maxHeartbeats 4000000 in
theorem lots_ok (T A : Option Addr) (tn tc n c : Nat) (t : List Q4) (l : List Mv) (w : World) (ht : Rws Q4.cs 4 w w.heap.size T tn tc t) (h : Rws Mv.cs 4 w w.heap.size A n c l) (hts : ∀ x ∈ t, x.s.size ≤ 30) (hs : ∀ x ∈ l, x.p.size ≤ 30) (hE : checkErr t l = 0) (hst : ∀ p, stOk p l) (hok : l.all okM = true) (hn : n ≤ 300) (htn : tn ≤ 60) :
    Calls Try.prog 24 #[.slice T tn tc, .slice A n c] w fun e w' => Below w.heap.size w w' ∧ ∃ v, e = .returned (.tuple #[v, .int .i64 0]) ∧ w'.ownsRow w.heap.size 54 5 v (lotsT t l).length ((lotsT t l).flatMap Lt.cs) := by
  have hcap := ht.cap
  have hmax := ht.max
  have HLT := Lib.hid ht.len
  have CM : Hid (Calls Try.prog 26 #[.slice T tn tc, .slice A n c] w fun e w' => Below w.heap.size w w' ∧ e = .returned (.int .i64 0)) := Lib.hid (by have := checkMoves_any A T n c tn tc t l w ht h hts hs; rwa [hE] at this)
  have LO : Hid (∀ p W, Below w.heap.size w W → Calls Try.prog 60 #[.string p, .slice A n c] W fun e w' => Below W.heap.size W w' ∧ ∃ v, e = .returned v ∧ w'.ownsRow W.heap.size 54 5 v (lotsR p l).length ((lotsR p l).flatMap Lt.cs)) := Lib.hid fun p W hW => by
    rw [← lots_same (hst p)]
    exact lotsOf_any p A n c l W (h.below hW (Nat.le_refl _) hW.size) (hst p) hok hn
  have HLN : Hid (∀ k p, (lotsT (t.take k) l).length + (lotsR p l).length ≤ 20000) := Lib.hid fun k p => by
    have h1 := lotsT_len hst (t.take k)
    have h2 := lotsR_len (hst p)
    have h3 : (t.take k).length ≤ 60 := by rw [List.length_take, HLT.out]; omega
    have h4 : l.length ≤ 300 := by rw [h.len]; exact hn
    have h5 : (t.take k).length * l.length ≤ 60 * 300 := Nat.mul_le_mul h3 h4
    omega
  have HT : Hid (∀ w', Below w.heap.size w w' → Rws Q4.cs 4 w' w.heap.size T tn tc t) := fun w' hb => ht.below hb (Nat.le_refl _) (Nat.le_refl _)
  clear ht h hst hok hts hs hE
  go_enter Try.func24, Try.ntmps24
  go_wp2_with (go_at_call 26; refine CM.out.mono ?_; rintro e w1 ⟨hb1, rfl⟩; have HB1 := Lib.hid hb1; have ow1 := hb1.size; clear hb1)
  go_loopw [7, 9, 18] (fun vo _ i wr => ∃ k : Nat, k ≤ tn ∧ i = .int .i64 k ∧ wr.ownsRow w.heap.size 54 5 vo (lotsT (t.take k) l).length ((lotsT (t.take k) l).flatMap Lt.cs) ∧ Below w.heap.size w wr) (fun _ _ i _ => tn - (intOf i).toNat)
  case atStart =>
    have hb0 := HB1.out
    exact ⟨0, Nat.zero_le _, rfl, World.ownsRow_nil _ _ _ _, (by repeat (first | with_reducible exact Below.refl _ _ | with_reducible assumption | with_reducible refine Below.drew ?_ | with_reducible refine Below.drewN ?_ _ | with_reducible refine Below.alloc2 ?_ _ | with_reducible refine Below.alloc ?_ (by first | omega | (simp <;> omega)) _ | with_reducible refine Below.setCell ?_ (by first | omega | (simp <;> omega)) _ | with_reducible refine Below.step2 (by with_reducible assumption) ?_ | with_reducible refine Below.step (by with_reducible assumption) ?_ (by first | omega | (simp <;> omega))))⟩
  case round =>
    obtain ⟨k, hk, rfl, ho, hb⟩ := hrel
    have HB := Lib.hid hb
    have HO := Lib.hid ho
    have ow := hb.size
    by_cases hlt : k < tn
    · obtain ⟨b, o, ⟨xp, xa, xb, xc⟩, rfl, hbb, hx, c0, c1, c2, c3⟩ := (HT.out _ hb).q4 hlt
      dsimp only at c0 c1 c2 c3
      have HX := Lib.hid (lotsT_step hx l)
      have z1 : (0 : Int) ≤ (k : Int) := by omega
      have z2 : (k : Int) < (tn : Int) := by omega
      have ob : b < wr.heap.size := by omega
      have hln := HLN.out k xp
      clear hx hb ho
      go_wp2_with (first
        | (at_builtin; go_loud (refine app_rows (W := lotsT (t.take k) l) HO2.out rfl _ _ rfl rfl rfl HR2.out (by omega) HB2.out.size ?_; intro v3 w3 ho3 hg3; have HO3 := Lib.hid ho3; have HG3 := Lib.hid hg3; clear ho3 hg3))
        | (go_at_call 60; refine (LO.out xp _ (by have hb0 := HB.out; exact (by repeat (first | with_reducible exact Below.refl _ _ | with_reducible assumption | with_reducible refine Below.drew ?_ | with_reducible refine Below.drewN ?_ _ | with_reducible refine Below.alloc2 ?_ _ | with_reducible refine Below.alloc ?_ (by first | omega | (simp <;> omega)) _ | with_reducible refine Below.setCell ?_ (by first | omega | (simp <;> omega)) _ | with_reducible refine Below.step2 (by with_reducible assumption) ?_ | with_reducible refine Below.step (by with_reducible assumption) ?_ (by first | omega | (simp <;> omega)))))).mono ?_; rintro e w2 ⟨hb2, v, rfl, hown⟩; obtain ⟨A1, c1, rfl, hr⟩ := Rws.of_own hown rfl; have HR2 := Lib.hid hr; have hbr : Below wr.heap.size wr w2 := (by refine Below.trans ?_ (hb2.mono ?_); (exact (by repeat (first | with_reducible exact Below.refl _ _ | with_reducible assumption | with_reducible refine Below.drew ?_ | with_reducible refine Below.drewN ?_ _ | with_reducible refine Below.alloc2 ?_ _ | with_reducible refine Below.alloc ?_ (by first | omega | (simp <;> omega)) _ | with_reducible refine Below.setCell ?_ (by first | omega | (simp <;> omega)) _ | with_reducible refine Below.step2 (by with_reducible assumption) ?_ | with_reducible refine Below.step (by with_reducible assumption) ?_ (by first | omega | (simp <;> omega))))); (first | omega | (simp <;> omega))); have HO2 := Lib.hid (own_step HO.out hbr); have HB2 : Hid (Below w.heap.size w w2) := Lib.hid (HB.out.trans (hbr.mono HB.out.size)); clear hr hown hb2 hbr))
      go_roundw
      case rel =>
        refine ⟨k + 1, by omega, by go_num, ?_, ?_⟩
        · rw [HX.out]
          exact HO3.out
        · exact Below.grown_ (D := w.heap.size) HB2.out HG3.out HB2.out.size (fun q hq => (HO2.out.lt q hq).1)
      case measure => simp [intOf]; omega
    · go_wp2
      go_ret2
      rw [List.take_of_length_le (by rw [HLT.out]; omega)] at HO
      exact ⟨HB.out, _, rfl, HO.out⟩

end Go.Proofs.Ytbeijeblbchglaa
