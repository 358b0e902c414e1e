/- Chapter 9, walks: see of open defects. -/
import Derived.Test.YtgjjjnofdjhikaaRecSpec9
import Derived.Test.YtgjjjnofdjhikaaLine
import Derived.Deep.DeepCutAuto
namespace Go.Proofs.Ytgjjjnofdjhikaa
open Go.RowKit Go.Maps

theorem grown_trans {a b c : World} {r r' : Option Nat} (h1 : a.grownBy b r) (h2 : b.grownBy c r') (hr : ∀ k, k < a.heap.size → some k ≠ r → some k ≠ r') : a.grownBy c r :=
  ⟨h2.os.trans h1.os, h2.tape.trans h1.tape, h2.output.trans h1.output, Nat.le_trans h1.size h2.size, fun k hk hne => (h2.block k (Nat.lt_of_lt_of_le hk h1.size) (hr k hk hne)).trans (h1.block k hk hne)⟩
theorem grown_old {a b : World} {r : Option Nat} {D : Nat} (h : Below D a b) (hD : a.heap.size ≤ D) : a.grownBy b r :=
  ⟨h.os, h.tape, h.output, h.size, fun k hk _ => h.block k (Nat.lt_of_lt_of_le hk hD)⟩
theorem opF_four {f : Df → Option Bool} {x : Ev} (h : x.k = 4) : (fun q => if q = (x.p, x.n) then some x.gr else f q) = opF f x := by
  funext q
  simp [opF, h]
theorem opF_five {f : Df → Option Bool} {x : Ev} (h : x.k = 5) : (fun q => if q = (x.p, x.n) then none else f q) = opF f x := by
  funext q
  simp [opF, h]
theorem opF_else {f : Df → Option Bool} {x : Ev} (h : x.k ≠ 4) (h2 : x.k ≠ 5) : opF f x = f := by
  funext q
  simp [opF, h, h2]
set_option maxRecDepth 100000 in
set_option maxHeartbeats 4000000 in
theorem see_any (xd xk xn : Int) (xp : ByteArray) (xs xg : Bool) (gm n : Nat) (f : Df → Option Bool) (w : World) (hm : BMap w Try.prog 92 4 dfV dfOk gm n f) (hok : dfOk (xp, xn)) (hn : n ≤ 1000000) :
    Calls Try.prog 46 #[.map (some gm), .agg #[.int .i64 xd, .int .i64 xk, .string xp, .int .i64 xn, .bool xs, .bool xg]] w fun e w' => (∃ n', n' ≤ n + 1 ∧ BMap w' Try.prog 92 4 dfV dfOk gm n' (opF f ⟨xd, xk, xp, xn, xs, xg⟩)) ∧ w.grownBy w' (some gm) ∧ e = .returned (.tuple #[]) := by
  have HM := Lib.hid hm
  have HOK := Lib.hid hok
  have og := hm.lt
  clear hm hok
  by_cases h4 : xk = 4
  · subst h4
    have HF := Lib.hid (opF_four (f := f) (x := ⟨xd, 4, xp, xn, xs, xg⟩) rfl)
    go_enter Try.func46, Try.ntmps46
    go_upto_region 3 with (fail)
    have kb : Bk (w.alloc (.cells #[.int .i64 xd, .int .i64 4, .string xp, .int .i64 xn, .bool xs, .bool xg] 24)) w.heap.size 24 #[.int .i64 xd, .int .i64 4, .string xp, .int .i64 xn, .bool xs, .bool xg] := (by repeat (first | with_reducible assumption | with_reducible exact Bk.at_ (by first | (simp; done) | omega) | with_reducible refine Bk.alloc ?_ _ | with_reducible refine Bk.drew ?_ | with_reducible refine Bk.drewN ?_ _ | with_reducible refine Bk.step (by with_reducible assumption) ?_ (by first | omega | (simp <;> omega))))
    have HKB := Lib.hid kb
    obtain ⟨q0, q1, q2, q3, q4, q5⟩ := kb.sixc
    refine region_goes (n := 6) (fun w' => w'.cell? ⟨w.heap.size, 0, none⟩ = some (.int .i64 xd) ∧ w'.cell? ⟨w.heap.size, 1, none⟩ = some (.int .i64 4) ∧ w'.cell? ⟨w.heap.size, 2, none⟩ = some (.string xp) ∧ w'.cell? ⟨w.heap.size, 3, none⟩ = some (.int .i64 xn) ∧ w'.cell? ⟨w.heap.size, 4, none⟩ = some (.bool xs) ∧ w'.cell? ⟨w.heap.size, 5, none⟩ = some (.bool xg)) [5] (by kernel_rfl) rfl ?_
    have hs1 := And.intro q0 (And.intro q1 (And.intro q2 (And.intro q3 (And.intro q4 q5))))
    refine goes_takeE (i := 0) (E := [5]) (v := .map (some gm)) rfl (by kernel_rfl) rfl (fun _ _ _ h => h) (by intro w' hw'; go_simp) hs1 ?_
    refine goes_takeE (i := 1) (E := [2, 5]) (v := .agg #[.int .i64 xd, .int .i64 4, .string xp, .int .i64 xn, .bool xs, .bool xg]) rfl (by kernel_rfl) rfl (fun _ _ _ h => h) (by intro w' hw'; obtain ⟨z0, z1, z2, z3, z4, z5⟩ := hw'; go_simp) hs1 ?_
    refine goes_takeE (i := 3) (E := [4, 5]) (v := .pointer (some ⟨w.heap.size, 5, none⟩)) rfl (by kernel_rfl) rfl (fun _ _ _ h => h) (by intro w' hw'; go_simp) hs1 ?_
    refine goes_takeE (i := 4) (E := [5]) (v := .bool xg) rfl (by kernel_rfl) rfl (fun _ _ _ h => h) (by intro w' hw'; obtain ⟨z0, z1, z2, z3, z4, z5⟩ := hw'; go_simp) hs1 ?_
    refine goes_call (i := 2) rfl (by kernel_rfl) ?_
    go_wp2_with (go_at_call 67; with_reducible refine (defectOf_any xd 4 xn xp xs xg _).mono ?_; rintro e w1 ⟨hb1, rfl⟩; have hk1 : Bk w1 w.heap.size 24 #[.int .i64 xd, .int .i64 4, .string xp, .int .i64 xn, .bool xs, .bool xg] := (HKB.out.drew).below hb1 (by simp); have hm1 := ((HM.out.alloc (.cells #[.int .i64 xd, .int .i64 4, .string xp, .int .i64 xn, .bool xs, .bool xg] 24)).drew).below hb1; have hb2 : Below w.heap.size w w1 := (((Below.refl _ w).alloc (Nat.le_refl _) _).drew).trans (hb1.mono (by simp)); have HM1 := Lib.hid hm1; have HB2 := Lib.hid hb2; have HS2 := Lib.hid hk1.sixc; clear hk1 hm1 hb1 hb2)
    refine behind_ok ⟨HS2.out, ?_⟩
    refine goes_last (i := 5) rfl (by kernel_rfl) (by kernel_rfl) ?_
    refine wpList_put_b rfl _ _ _ rfl (df_keys w) Try.underlying80 Try.underlying4 rfl HM1.out (by unfold maxLen; omega) (xp, xn) xg HOK.out rfl rfl ?_
    intro w3 hm3 hg3
    have HM3 := Lib.hid hm3
    have HG3 := Lib.hid hg3
    clear hm3 hg3
    go_wp2
    refine behind_ok (goes_done (by kernel_rfl) ?_)
    go_wp2
    go_end0
    refine ⟨⟨n + 1, by omega, ?_⟩, grown_trans (grown_old HB2.out (Nat.le_refl _)) HG3.out (fun k _ h => h), rfl⟩
    have := HM3.out
    rw [HF.out] at this
    exact this
  by_cases h5 : xk = 5
  · subst h5
    have HF := Lib.hid (opF_five (f := f) (x := ⟨xd, 5, xp, xn, xs, xg⟩) rfl)
    go_enter Try.func46, Try.ntmps46
    go_wp2_with (first
      | (go_at_call 67; with_reducible refine (defectOf_any xd 5 xn xp xs xg _).mono ?_; rintro e w1 ⟨hb1, rfl⟩; go_loud (have hm1 := (HM.out.alloc (.cells #[.int .i64 xd, .int .i64 5, .string xp, .int .i64 xn, .bool xs, .bool xg] 24)).below hb1; have hb2 : Below w.heap.size w w1 := ((Below.refl _ w).alloc (Nat.le_refl _) _).trans (hb1.mono (by simp)); have HM1 := Lib.hid hm1; have HB2 := Lib.hid hb2; clear hm1 hb1 hb2))
      | (at_delete; go_loud (refine wpList_del_b rfl _ _ rfl (df_keys w) Try.underlying80 rfl HM1.out (xp, xn) HOK.out rfl ?_; intro w3 hm3 hg3; have HM3 := Lib.hid hm3; have HG3 := Lib.hid hg3.grown; clear hm3 hg3)))
    go_end0
    refine ⟨⟨n, by omega, ?_⟩, grown_trans (grown_old HB2.out (Nat.le_refl _)) HG3.out (fun k _ h => h), rfl⟩
    have := HM3.out
    rw [HF.out] at this
    exact this
  · have HF := Lib.hid (opF_else (f := f) (x := ⟨xd, xk, xp, xn, xs, xg⟩) h4 h5)
    have h4b : (xk == 4) = false := by simpa using h4
    have h5b : (xk == 5) = false := by simpa using h5
    clear h4 h5
    go_enter Try.func46, Try.ntmps46
    go_wp2
    go_end0
    refine ⟨⟨n, by omega, ?_⟩, World.grownBy_alloc w _ _, rfl⟩
    rw [HF.out]
    exact HM.out.alloc _

end Go.Proofs.Ytgjjjnofdjhikaa
