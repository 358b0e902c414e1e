/- Chapter 9, walks: Balance and OnHire of the program, Balance of the reference. -/
import Derived.Test.YtbeijeblbchglaaBal9
import Derived.Test.YtbeijeblbchglaaAcctP9
import Derived.Test.YtbeijeblbchglaaLotSum9
namespace Go.Proofs.Ytbeijeblbchglaa
open Go.RowKit Go.WideShapes Go.Deep

section
variable {w : World} {base : Nat} {ops : Array Oper} {rest : List Oper} {o : Oper} {a : Act} {Q : Exit → Act → World → Prop}
theorem info_b4 : (Try.prog.info? 73).map (fun i => (i.zero.map (·.cells.size), i.size, i.bytes)) = some (some 4, 4, 32) := by kernel_rfl
theorem info_i1 : (Try.prog.info? 3).map (fun i => (i.zero.map (·.cells.size), i.size, i.bytes)) = some (some 1, 1, 8) := by kernel_rfl
/-- A balance, behind a row of the call's own. -/
theorem app_b4 {W : List B4} {vw : Value} (h : w.ownsRow base 73 4 vw W.length (W.flatMap B4.cs)) (hgd : o.guard = none) (s x : Operand) (ho : o.op = .call { callee := .builtin .append, args := #[s, x], argTypes := #[65, 65] })
    (hs : a.eval s = vw) (y : B4) (B : Nat) (hx : a.eval x = .slice (some ⟨B, 0, none⟩) 1 1) (hB : Bk w B 73 y.cs.toArray) (hn : W.length ≤ 30000) (hbase : base ≤ w.heap.size)
    (hK : ∀ v' w', w'.ownsRow base 73 4 v' (W ++ [y]).length ((W ++ [y]).flatMap B4.cs) → w.grownBy w' vw.ownBlock → wpList Try.prog ops Q rest (a.put o.dst v') w') : wpList Try.prog ops Q (o :: rest) a w := by
  obtain ⟨i0, z, hi0, hz0, hzs, hz1, hz2⟩ := info_cells info_b4
  exact wpList_append_own_at w hgd s x _ ho base 73 i0 z 4 32 Try.underlying65 hi0 hz0 hz1 hz2 hzs (by omega) vw W.length (W.flatMap B4.cs) hs h ⟨B, 0, none⟩ 1 1 y.cs hx rfl (World.news_of_block (fr := (0, 0)) hB) (B4.one y) (by unfold maxLen; omega) (by omega) hbase fun v' w' h1 h2 _ h4 => hK v' w' (by simpa using h1) h2
def i1 (x : Int) : List Value := [.int .i64 x]
theorem i1_wide (x : Int) : (i1 x).length = 1 := rfl
theorem i1_one (x : Int) : ∀ u ∈ i1 x, u.oneCell' = true := by intro u hu; simp [i1] at hu; subst hu; rfl
/-- A number, behind a row of the call's own. -/
theorem app_i1 {W : List Int} {vw : Value} (h : w.ownsRow base 3 1 vw W.length (W.flatMap i1)) (hgd : o.guard = none) (s x : Operand) (ho : o.op = .call { callee := .builtin .append, args := #[s, x], argTypes := #[37, 37] })
    (hs : a.eval s = vw) (y : Int) (B : Nat) (hx : a.eval x = .slice (some ⟨B, 0, none⟩) 1 1) (hB : Bk w B 3 #[.int .i64 y]) (hn : W.length ≤ 30000) (hbase : base ≤ w.heap.size)
    (hK : ∀ v' w', w'.ownsRow base 3 1 v' (W ++ [y]).length ((W ++ [y]).flatMap i1) → w.grownBy w' vw.ownBlock → wpList Try.prog ops Q rest (a.put o.dst v') w') : wpList Try.prog ops Q (o :: rest) a w := by
  obtain ⟨i0, z, hi0, hz0, hzs, hz1, hz2⟩ := info_cells info_i1
  exact wpList_append_own_at w hgd s x _ ho base 3 i0 z 1 8 Try.underlying37 hi0 hz0 hz1 hz2 hzs (by omega) vw W.length (W.flatMap i1) hs h ⟨B, 0, none⟩ 1 1 (i1 y) hx rfl (World.news_of_block (fr := (0, 0)) hB) (i1_one y) (by unfold maxLen; omega) (by omega) hbase fun v' w' h1 h2 _ h4 => hK v' w' (by simpa using h1) h2
end
/-- The balances of all terms. -/
def bals (t : List Q4) (L : List Mv) : List B4 := t.map fun x => balP L x.s
theorem bals_step {t : List Q4} {k : Nat} {x : Q4} (hx : t[k]? = some x) (L : List Mv) : bals (t.take (k + 1)) L = bals (t.take k) L ++ [balP L x.s] := by
  rw [take_step hx]
  simp [bals]
set_option maxHeartbeats 2000000 in
theorem balance_bad (T A : Option Addr) (tn tc n c : Nat) (t : List Q4) (l : List Mv) (day : Int) (w : World) (ht : Rws Q4.cs 4 w w.heap.size T tn tc t) (h : Rws Mv.cs 4 w w.heap.size A n c l) (hts : ∀ x ∈ t, x.s.size ≤ 30) (hs : ∀ x ∈ l, x.p.size ≤ 30) (hE : acErr t l day ≠ 0) :
    Calls Try.prog 34 #[.slice T tn tc, .slice A n c, .int .i64 day] w fun e w' => Below w.heap.size w w' ∧ e = .returned (.tuple #[.slice none 0 0, .int .i64 (acErr t l day)]) := by
  have CM : Hid (Calls Try.prog 26 #[.slice T tn tc, .slice A n c] w fun e w' => Below w.heap.size w w' ∧ e = .returned (.int .i64 (checkErr t l))) := Lib.hid (checkMoves_any A T n c tn tc t l w ht h hts hs)
  unfold acErr at hE ⊢
  obtain ⟨E, hE1⟩ : ∃ E, checkErr t l = E := ⟨_, rfl⟩
  rw [hE1] at CM hE ⊢
  clear ht h hts hs hE1
  by_cases h0 : E = 0
  · rw [if_pos h0] at hE ⊢
    subst h0
    obtain ⟨v, hv⟩ : ∃ v, dayB day = v := ⟨_, rfl⟩
    have HV := Lib.hid hv
    rw [hv] at hE ⊢
    clear hv
    cases v
    · rw [if_neg (by simp)]
      clear hE
      go_enter Try.func34, Try.ntmps34
      go_wp2_with (first | (go_at_call 26; refine CM.out.mono ?_; rintro e w1 ⟨hb1, rfl⟩; have HB1 := Lib.hid hb1; have ow1 := hb1.size; clear hb1) | (go_at_call 64; with_reducible refine (isDay_b HV.out _).mono ?_; rintro e w2 ⟨hb2, rfl⟩; have HB2 : Hid (Below w.heap.size w w2) := Lib.hid (Below.step2 hb2 HB1.out); have ow2 := HB2.out.size; clear hb2))
      go_ret2
      exact ⟨HB2.out, rfl⟩
    · exact absurd rfl hE
  · rw [if_neg h0] at hE ⊢
    have d0 : (E != 0) = true := by simpa using h0
    clear hE
    go_enter Try.func34, Try.ntmps34
    go_wp2_with (first | (go_at_call 26; refine CM.out.mono ?_; rintro e w1 ⟨hb1, rfl⟩; have HB1 := Lib.hid hb1; have ow1 := hb1.size; clear hb1))
    go_ret2
    exact ⟨HB1.out, rfl⟩
set_option maxRecDepth 100000 in
set_option maxHeartbeats 8000000 in
theorem balance_ok (T A : Option Addr) (tn tc n c : Nat) (t : List Q4) (l : List Mv) (day : Int) (w : World) (ht : Rws Q4.cs 4 w w.heap.size T tn tc t) (h : Rws Mv.cs 4 w w.heap.size A n c l) (hts : ∀ x ∈ t, x.s.size ≤ 30) (hs : ∀ x ∈ l, x.p.size ≤ 30) (hE : checkErr t l = 0) (hd : dayB day = true) :
    Calls Try.prog 34 #[.slice T tn tc, .slice A n c, .int .i64 day] w fun e w' => Below w.heap.size w w' ∧ ∃ v, e = .returned (.tuple #[v, .int .i64 0]) ∧ w'.ownsRow w.heap.size 73 4 v (bals t (upM l day)).length ((bals t (upM l day)).flatMap B4.cs) := by
  have CM : Hid (Calls Try.prog 26 #[.slice T tn tc, .slice A n c] w fun e w' => Below w.heap.size w w' ∧ e = .returned (.int .i64 (checkErr t l))) := Lib.hid (checkMoves_any A T n c tn tc t l w ht h hts hs)
  rw [hE] at CM
  have hg := Good.of hE
  have HV := Lib.hid hd
  have hcap := ht.cap
  have hmax := ht.max
  have HLT := Lib.hid ht.len
  have htn : tn ≤ 60 := by rw [← ht.len]; exact hg.tn
  have hup : upN day l ≤ n := by have := upN_le day l; rwa [h.len] at this
  have hgu := hg.up day
  obtain ⟨m, hm⟩ : ∃ m, upN day l = m := ⟨_, rfl⟩
  obtain ⟨L, hL⟩ : ∃ L, upM l day = L := ⟨_, rfl⟩
  have hLm : l.take m = L := by rw [← hL, upM, hm]
  rw [hL] at hgu ⊢
  have MU : Hid (∀ W, Below w.heap.size w W → Calls Try.prog 68 #[.slice A n c, .int .i64 day] W fun e w' => Below W.heap.size W w' ∧ e = .returned (.slice A m c)) := Lib.hid fun W hW => by
    have := movesUpTo_any A n c l day W (h.below hW (Nat.le_refl _) hW.size)
    rwa [hm] at this
  have BO : Hid (∀ p W, Below w.heap.size w W → Calls Try.prog 67 #[.string p, .slice A m c] W fun e w' => Below W.heap.size W w' ∧ e = .returned (.agg (balP L p).cs.toArray)) := Lib.hid fun p W hW => by
    have hr := (h.below hW (Nat.le_refl _) hW.size).take Mv.wide (show m ≤ n by omega)
    rw [hLm] at hr
    refine balanceOf_any A m c L p W hr hgu.ok ?_
    have := hgu.ln
    have := hr.len
    omega
  have HT : Hid (∀ w', Below w.heap.size w w' → Rws Q4.cs 4 w' w.heap.size T tn tc t) := fun w' hb => ht.below hb (Nat.le_refl _) (Nat.le_refl _)
  clear ht h hg hgu hd hL hLm hm hup hts hs hE
  go_enter Try.func34, Try.ntmps34
  go_wp2_with (first | (go_at_call 26; refine CM.out.mono ?_; rintro e w1 ⟨hb1, rfl⟩; have HB1 := Lib.hid hb1; have ow1 := hb1.size; clear hb1) | (go_at_call 64; with_reducible refine (isDay_b HV.out _).mono ?_; rintro e w2 ⟨hb2, rfl⟩; have HB2 : Hid (Below w.heap.size w w2) := Lib.hid (Below.step2 hb2 HB1.out); have ow2 := HB2.out.size; clear hb2))
  go_loopw [9, 11, 23] (fun vo _ i wr => ∃ k : Nat, k ≤ tn ∧ i = .int .i64 k ∧ wr.ownsRow w.heap.size 73 4 vo (bals (t.take k) L).length ((bals (t.take k) L).flatMap B4.cs) ∧ Below w.heap.size w wr) (fun _ _ i _ => tn - (intOf i).toNat)
  case atStart => exact ⟨0, Nat.zero_le _, rfl, World.ownsRow_nil _ _ _ _, HB2.out⟩
  case round =>
    obtain ⟨k, hk, rfl, ho, hb⟩ := hrel
    have HB := Lib.hid hb
    have HO := Lib.hid ho
    have ow := hb.size
    by_cases hlt : k < tn
    · obtain ⟨b, o, ⟨xs, xa, xb, xc⟩, rfl, hbb, hx, c0, c1, c2, c3⟩ := (HT.out _ hb).q4 hlt
      dsimp only at c0 c1 c2 c3
      have hstep := bals_step hx L
      have z1 : (0 : Int) ≤ (k : Int) := by omega
      have z2 : (k : Int) < (tn : Int) := by omega
      have ob : b < wr.heap.size := by omega
      have HSL : Hid ((bals (t.take k) L).length ≤ 30000) := Lib.hid (by
        unfold bals
        rw [List.length_map, List.length_take]
        omega)
      obtain ⟨⟨ya, yb, yc, yd⟩, hY⟩ : ∃ Y, balP L xs = Y := ⟨_, rfl⟩
      have BOX : Hid (∀ W, Below w.heap.size w W → Calls Try.prog 67 #[.string xs, .slice A m c] W fun e w' => Below W.heap.size W w' ∧ e = .returned (.agg #[.int .i64 ya, .int .i64 yb, .int .i64 yc, .int .i64 yd])) := Lib.hid fun W hW => by
        have := BO.out xs W hW
        rwa [hY] at this
      rw [hY] at hstep
      obtain ⟨SS, hSS⟩ : ∃ S, bals (t.take k) L = S := ⟨_, rfl⟩
      rw [hSS] at HSL HO hstep
      have HST := Lib.hid hstep
      clear hx hb ho hY hSS hstep
      go_upto_region 10 with fail
      refine region_goes (n := 10) (fun w' => Bk w' wr.heap.size 56 #[.string xs, .int .i64 xa, .int .i64 xb, .int .i64 xc] ∧ Below w.heap.size w w') [8, 9] (by kernel_rfl) rfl ?_
      have hb0 := HB.out
      refine goes_takeE (i := 0) (E := [8, 9]) (v := u9) rfl (by kernel_rfl) rfl (fun _ _ _ h => h) (by intro w' hw'; obtain ⟨z0, z1, z2, z3⟩ := hw'.1.fourc; go_simp) (by exact ⟨(by repeat (first | with_reducible assumption | with_reducible exact Bk.at_ (by first | (simp; done) | omega) | with_reducible refine Bk.alloc ?_ _ | with_reducible refine Bk.drew ?_ | with_reducible refine Bk.drewN ?_ _ | with_reducible refine Bk.step (by with_reducible assumption) ?_ (by first | omega | (simp <;> omega)))), (by repeat (first | with_reducible exact Below.refl _ _ | with_reducible assumption | with_reducible refine Below.drew ?_ | with_reducible refine Below.drewN ?_ _ | with_reducible refine Below.alloc2 ?_ _ | with_reducible refine Below.alloc ?_ (by first | omega | (simp <;> omega)) _ | with_reducible refine Below.setCell ?_ (by first | omega | (simp <;> omega)) _ | with_reducible refine Below.step2 (by with_reducible assumption) ?_ | with_reducible refine Below.step (by with_reducible assumption) ?_ (by first | omega | (simp <;> omega))))⟩) ?_
      refine goes_takeE (i := 1) (E := [2, 6, 7, 8, 9]) (v := .pointer (some ⟨wr.heap.size, 0, none⟩)) rfl (by kernel_rfl) rfl (fun _ _ _ h => h) (by intro w' hw'; obtain ⟨z0, z1, z2, z3⟩ := hw'.1.fourc; go_simp) (by exact ⟨(by repeat (first | with_reducible assumption | with_reducible exact Bk.at_ (by first | (simp; done) | omega) | with_reducible refine Bk.alloc ?_ _ | with_reducible refine Bk.drew ?_ | with_reducible refine Bk.drewN ?_ _ | with_reducible refine Bk.step (by with_reducible assumption) ?_ (by first | omega | (simp <;> omega)))), (by repeat (first | with_reducible exact Below.refl _ _ | with_reducible assumption | with_reducible refine Below.drew ?_ | with_reducible refine Below.drewN ?_ _ | with_reducible refine Below.alloc2 ?_ _ | with_reducible refine Below.alloc ?_ (by first | omega | (simp <;> omega)) _ | with_reducible refine Below.setCell ?_ (by first | omega | (simp <;> omega)) _ | with_reducible refine Below.step2 (by with_reducible assumption) ?_ | with_reducible refine Below.step (by with_reducible assumption) ?_ (by first | omega | (simp <;> omega))))⟩) ?_
      refine goes_takeE (i := 2) (E := [6, 7, 8, 9]) (v := .string xs) rfl (by kernel_rfl) rfl (fun _ _ _ h => h) (by intro w' hw'; obtain ⟨z0, z1, z2, z3⟩ := hw'.1.fourc; go_simp) (by exact ⟨(by repeat (first | with_reducible assumption | with_reducible exact Bk.at_ (by first | (simp; done) | omega) | with_reducible refine Bk.alloc ?_ _ | with_reducible refine Bk.drew ?_ | with_reducible refine Bk.drewN ?_ _ | with_reducible refine Bk.step (by with_reducible assumption) ?_ (by first | omega | (simp <;> omega)))), (by repeat (first | with_reducible exact Below.refl _ _ | with_reducible assumption | with_reducible refine Below.drew ?_ | with_reducible refine Below.drewN ?_ _ | with_reducible refine Below.alloc2 ?_ _ | with_reducible refine Below.alloc ?_ (by first | omega | (simp <;> omega)) _ | with_reducible refine Below.setCell ?_ (by first | omega | (simp <;> omega)) _ | with_reducible refine Below.step2 (by with_reducible assumption) ?_ | with_reducible refine Below.step (by with_reducible assumption) ?_ (by first | omega | (simp <;> omega))))⟩) ?_
      refine goes_takeE (i := 3) (E := [5, 6, 7, 8, 9]) (v := .slice A n c) rfl (by kernel_rfl) rfl (fun _ _ _ h => h) (by intro w' hw'; obtain ⟨z0, z1, z2, z3⟩ := hw'.1.fourc; go_simp) (by exact ⟨(by repeat (first | with_reducible assumption | with_reducible exact Bk.at_ (by first | (simp; done) | omega) | with_reducible refine Bk.alloc ?_ _ | with_reducible refine Bk.drew ?_ | with_reducible refine Bk.drewN ?_ _ | with_reducible refine Bk.step (by with_reducible assumption) ?_ (by first | omega | (simp <;> omega)))), (by repeat (first | with_reducible exact Below.refl _ _ | with_reducible assumption | with_reducible refine Below.drew ?_ | with_reducible refine Below.drewN ?_ _ | with_reducible refine Below.alloc2 ?_ _ | with_reducible refine Below.alloc ?_ (by first | omega | (simp <;> omega)) _ | with_reducible refine Below.setCell ?_ (by first | omega | (simp <;> omega)) _ | with_reducible refine Below.step2 (by with_reducible assumption) ?_ | with_reducible refine Below.step (by with_reducible assumption) ?_ (by first | omega | (simp <;> omega))))⟩) ?_
      refine goes_takeE (i := 4) (E := [5, 6, 7, 8, 9]) (v := .int .i64 day) rfl (by kernel_rfl) rfl (fun _ _ _ h => h) (by intro w' hw'; obtain ⟨z0, z1, z2, z3⟩ := hw'.1.fourc; go_simp) (by exact ⟨(by repeat (first | with_reducible assumption | with_reducible exact Bk.at_ (by first | (simp; done) | omega) | with_reducible refine Bk.alloc ?_ _ | with_reducible refine Bk.drew ?_ | with_reducible refine Bk.drewN ?_ _ | with_reducible refine Bk.step (by with_reducible assumption) ?_ (by first | omega | (simp <;> omega)))), (by repeat (first | with_reducible exact Below.refl _ _ | with_reducible assumption | with_reducible refine Below.drew ?_ | with_reducible refine Below.drewN ?_ _ | with_reducible refine Below.alloc2 ?_ _ | with_reducible refine Below.alloc ?_ (by first | omega | (simp <;> omega)) _ | with_reducible refine Below.setCell ?_ (by first | omega | (simp <;> omega)) _ | with_reducible refine Below.step2 (by with_reducible assumption) ?_ | with_reducible refine Below.step (by with_reducible assumption) ?_ (by first | omega | (simp <;> omega))))⟩) ?_
      clear hb0
      refine goes_call (i := 5) rfl (by kernel_rfl) ?_
      go_wp2_with ((go_at_call 68; refine (MU.out _ (by have hb0 := HB.out; exact (by repeat (first | with_reducible exact Below.refl _ _ | with_reducible assumption | with_reducible refine Below.drew ?_ | with_reducible refine Below.drewN ?_ _ | with_reducible refine Below.alloc2 ?_ _ | with_reducible refine Below.alloc ?_ (by first | omega | (simp <;> omega)) _ | with_reducible refine Below.setCell ?_ (by first | omega | (simp <;> omega)) _ | with_reducible refine Below.step2 (by with_reducible assumption) ?_ | with_reducible refine Below.step (by with_reducible assumption) ?_ (by first | omega | (simp <;> omega)))))).mono ?_; rintro e w5 ⟨hb5, rfl⟩; have HK5 : Hid (Bk w5 wr.heap.size 56 #[.string xs, .int .i64 xa, .int .i64 xb, .int .i64 xc]) := Lib.hid (by exact (by repeat (first | with_reducible assumption | with_reducible exact Bk.at_ (by first | (simp; done) | omega) | with_reducible refine Bk.alloc ?_ _ | with_reducible refine Bk.drew ?_ | with_reducible refine Bk.drewN ?_ _ | with_reducible refine Bk.step (by with_reducible assumption) ?_ (by first | omega | (simp <;> omega))))); have HB5 : Hid (Below w.heap.size w w5) := Lib.hid (by have hb0 := HB.out; exact (by repeat (first | with_reducible exact Below.refl _ _ | with_reducible assumption | with_reducible refine Below.drew ?_ | with_reducible refine Below.drewN ?_ _ | with_reducible refine Below.alloc2 ?_ _ | with_reducible refine Below.alloc ?_ (by first | omega | (simp <;> omega)) _ | with_reducible refine Below.setCell ?_ (by first | omega | (simp <;> omega)) _ | with_reducible refine Below.step2 (by with_reducible assumption) ?_ | with_reducible refine Below.step (by with_reducible assumption) ?_ (by first | omega | (simp <;> omega))))); have HS5 : Hid (Below wr.heap.size wr w5) := Lib.hid (by exact (by repeat (first | with_reducible exact Below.refl _ _ | with_reducible assumption | with_reducible refine Below.drew ?_ | with_reducible refine Below.drewN ?_ _ | with_reducible refine Below.alloc2 ?_ _ | with_reducible refine Below.alloc ?_ (by first | omega | (simp <;> omega)) _ | with_reducible refine Below.setCell ?_ (by first | omega | (simp <;> omega)) _ | with_reducible refine Below.step2 (by with_reducible assumption) ?_ | with_reducible refine Below.step (by with_reducible assumption) ?_ (by first | omega | (simp <;> omega))))); clear hb5))
      refine behind_ok ⟨⟨HK5.out, HB5.out⟩, ?_⟩
      refine goes_call (i := 6) rfl (by kernel_rfl) ?_
      go_wp2_with ((go_at_call 67; refine (BOX.out _ HB5.out).mono ?_; rintro e w6 ⟨hb6, rfl⟩; have HK6 : Hid (Bk w6 wr.heap.size 56 #[.string xs, .int .i64 xa, .int .i64 xb, .int .i64 xc]) := Lib.hid (HK5.out.below hb6 HK5.out.lt); have HB6 : Hid (Below w.heap.size w w6) := Lib.hid (Below.step2 hb6 HB5.out); have HS6 : Hid (Below wr.heap.size wr w6) := Lib.hid (Below.step2 hb6 HS5.out); clear hb6))
      refine behind_ok ⟨⟨HK6.out, HB6.out⟩, ?_⟩
      refine goes_call (i := 7) rfl (by kernel_rfl) ?_
      go_wp2
      refine behind_ok ?_
      refine ⟨⟨?_, ?_⟩, ?_⟩
      · exact Bk.alloc HK6.out _
      · exact HB6.out.alloc (by have := HB6.out.size; omega) _
      refine goes_last (i := 8) rfl (by kernel_rfl) (by kernel_rfl) ?_
      refine app_b4 (W := SS) (base := w.heap.size) (vw := u9) ?_ rfl _ _ rfl rfl ⟨ya, yb, yc, yd⟩ _ rfl ?_ HSL.out ?_ ?_
      · have hs6 := HS6.out
        exact own_step HO.out (by exact (by repeat (first | with_reducible exact Below.refl _ _ | with_reducible assumption | with_reducible refine Below.drew ?_ | with_reducible refine Below.drewN ?_ _ | with_reducible refine Below.alloc2 ?_ _ | with_reducible refine Below.alloc ?_ (by first | omega | (simp <;> omega)) _ | with_reducible refine Below.setCell ?_ (by first | omega | (simp <;> omega)) _ | with_reducible refine Below.step2 (by with_reducible assumption) ?_ | with_reducible refine Below.step (by with_reducible assumption) ?_ (by first | omega | (simp <;> omega)))))
      · show Bk _ _ _ #[.int .i64 ya, .int .i64 yb, .int .i64 yc, .int .i64 yd]
        exact (by repeat (first | with_reducible assumption | with_reducible exact Bk.at_ (by first | (simp; done) | omega) | with_reducible refine Bk.alloc ?_ _ | with_reducible refine Bk.drew ?_ | with_reducible refine Bk.drewN ?_ _ | with_reducible refine Bk.step (by with_reducible assumption) ?_ (by first | omega | (simp <;> omega))))
      · have := HB6.out.size
        (try simp)
        omega
      intro v7 w7 ho7 hg7
      have HO7 := Lib.hid ho7
      have HB7 : Hid (Below w.heap.size w w7) := Lib.hid (by
        have hb6 := HB6.out
        exact Below.grown_ (D := w.heap.size) (by exact (by repeat (first | with_reducible exact Below.refl _ _ | with_reducible assumption | with_reducible refine Below.drew ?_ | with_reducible refine Below.drewN ?_ _ | with_reducible refine Below.alloc2 ?_ _ | with_reducible refine Below.alloc ?_ (by first | omega | (simp <;> omega)) _ | with_reducible refine Below.setCell ?_ (by first | omega | (simp <;> omega)) _ | with_reducible refine Below.step2 (by with_reducible assumption) ?_ | with_reducible refine Below.step (by with_reducible assumption) ?_ (by first | omega | (simp <;> omega))))) hg7 (by have := hb6.size; (try simp); omega) (fun q hq => (HO.out.lt q hq).1))
      clear ho7 hg7
      go_wp2
      refine behind_ok ?_
      refine goes_last (i := 9) rfl (by kernel_rfl) (by kernel_rfl) ?_
      go_wp2
      refine behind_ok (goes_done (by kernel_rfl) ?_)
      go_wp2
      go_roundw
      case rel =>
        refine ⟨k + 1, by omega, by go_num, ?_, HB7.out⟩
        rw [HST.out]
        exact HO7.out
      case measure => simp [intOf]; omega
    · go_wp2
      go_ret2
      rw [List.take_of_length_le (by rw [HLT.out]; omega)] at HO
      exact ⟨HB.out, _, rfl, HO.out⟩

/-- What is on hire, term by term. -/
def hires (t : List Q4) (L : List Mv) : List Int := (bals t L).map (·.d)
set_option maxHeartbeats 2000000 in
theorem onHire_bad (T A : Option Addr) (tn tc n c : Nat) (t : List Q4) (l : List Mv) (day : Int) (w : World) (ht : Rws Q4.cs 4 w w.heap.size T tn tc t) (h : Rws Mv.cs 4 w w.heap.size A n c l) (hts : ∀ x ∈ t, x.s.size ≤ 30) (hs : ∀ x ∈ l, x.p.size ≤ 30) (hE : acErr t l day ≠ 0) :
    Calls Try.prog 35 #[.slice T tn tc, .slice A n c, .int .i64 day] w fun e w' => Below w.heap.size w w' ∧ e = .returned (.tuple #[.slice none 0 0, .int .i64 (acErr t l day)]) := by
  have BC := Lib.hid (balance_bad T A tn tc n c t l day w ht h hts hs hE)
  obtain ⟨E, hE1⟩ : ∃ E, acErr t l day = E := ⟨_, rfl⟩
  rw [hE1] at BC ⊢
  clear ht h hts hs hE1 hE
  go_enter Try.func35, Try.ntmps35
  go_wp2_with (first | (go_at_call 34; refine BC.out.mono ?_; rintro e w1 ⟨hb1, rfl⟩; have HB1 := Lib.hid hb1; have ow1 := hb1.size; clear hb1))
  go_loopw [10, 12, 22] (fun vo _ i wr => vo = .slice none 0 0 ∧ i = .int .i64 0 ∧ Below w.heap.size w wr) (fun _ _ _ _ => 0)
  case atStart => exact ⟨rfl, rfl, HB1.out⟩
  case round =>
    obtain ⟨rfl, rfl, hb⟩ := hrel
    have HB := Lib.hid hb
    clear hb
    go_wp2
    go_ret2
    exact ⟨HB.out, rfl⟩
set_option maxRecDepth 100000 in
set_option maxHeartbeats 8000000 in
theorem onHire_ok (T A : Option Addr) (tn tc n c : Nat) (t : List Q4) (l : List Mv) (day : Int) (w : World) (ht : Rws Q4.cs 4 w w.heap.size T tn tc t) (h : Rws Mv.cs 4 w w.heap.size A n c l) (hts : ∀ x ∈ t, x.s.size ≤ 30) (hs : ∀ x ∈ l, x.p.size ≤ 30) (hE : checkErr t l = 0) (hd : dayB day = true) :
    Calls Try.prog 35 #[.slice T tn tc, .slice A n c, .int .i64 day] w fun e w' => Below w.heap.size w w' ∧ ∃ v, e = .returned (.tuple #[v, .int .i64 0]) ∧ w'.ownsRow w.heap.size 3 1 v (hires t (upM l day)).length ((hires t (upM l day)).flatMap i1) := by
  have BC := Lib.hid (balance_ok T A tn tc n c t l day w ht h hts hs hE hd)
  have hln : (bals t (upM l day)).length = tn := by unfold bals; rw [List.length_map, ht.len]
  have htn : tn ≤ 60 := by rw [← ht.len]; exact (Good.of hE).tn
  unfold hires
  obtain ⟨BB, hBB⟩ : ∃ B, bals t (upM l day) = B := ⟨_, rfl⟩
  rw [hBB] at BC hln ⊢
  rw [hln] at BC
  have HLN := Lib.hid hln
  clear ht h hts hs hE hd hBB hln
  go_enter Try.func35, Try.ntmps35
  go_wp2_with (first | (go_at_call 34; refine BC.out.mono ?_; rintro e w1 ⟨hb1, v, rfl, hown⟩; obtain ⟨C1, cl, rfl, hr⟩ := Rws.of_own hown HLN.out; have HR1 := Lib.hid hr; have HB1 := Lib.hid hb1; have ow1 := hb1.size; clear hb1 hown hr))
  go_loopw [10, 12, 22] (fun vo _ i wr => ∃ k : Nat, k ≤ tn ∧ i = .int .i64 k ∧ wr.ownsRow w1.heap.size 3 1 vo ((BB.take k).map (·.d)).length (((BB.take k).map (·.d)).flatMap i1) ∧ Below w1.heap.size w1 wr ∧ Below w.heap.size w wr) (fun _ _ i _ => tn - (intOf i).toNat)
  case atStart => exact ⟨0, Nat.zero_le _, rfl, World.ownsRow_nil _ _ _ _, Below.refl _ _, HB1.out⟩
  case round =>
    obtain ⟨k, hk, rfl, ho, hc, hb⟩ := hrel
    have HB := Lib.hid hb
    have HC := Lib.hid hc
    have HO := Lib.hid ho
    have ow := hc.size
    by_cases hlt : k < tn
    · have hrows := HR1.out.below hc (Nat.le_refl _) (Nat.le_refl _)
      have hcap3 := hrows.cap
      have hmax3 := hrows.max
      obtain ⟨b, o, ⟨ya, yb, yc, yd⟩, rfl, hbb, hy, c0, c1, c2, c3⟩ := hrows.b4 hlt
      dsimp only at c0 c1 c2 c3
      have hst : (BB.take (k + 1)).map (·.d) = (BB.take k).map (·.d) ++ [yd] := by rw [take_step hy]; simp
      have z1 : (0 : Int) ≤ (k : Int) := by omega
      have z2 : (k : Int) < (tn : Int) := by omega
      have ob : b < wr.heap.size := by omega
      have HSL : Hid (((BB.take k).map (·.d)).length ≤ 30000) := Lib.hid (by rw [List.length_map, List.length_take]; omega)
      obtain ⟨SS, hSS⟩ : ∃ S, (BB.take k).map (·.d) = S := ⟨_, rfl⟩
      rw [hSS] at HSL HO hst
      have HST := Lib.hid hst
      clear hrows hy hb ho hc hSS hst
      go_wp2_with (at_builtin; go_loud (refine app_i1 (W := SS) (base := w1.heap.size) (vw := u10) ?_ rfl _ _ rfl rfl yd _ rfl ?_ HSL.out ?_ ?_; (exact own_step HO.out (by exact (by repeat (first | with_reducible exact Below.refl _ _ | with_reducible assumption | with_reducible refine Below.drew ?_ | with_reducible refine Below.drewN ?_ _ | with_reducible refine Below.alloc2 ?_ _ | with_reducible refine Below.alloc ?_ (by first | omega | (simp <;> omega)) _ | with_reducible refine Below.setCell ?_ (by first | omega | (simp <;> omega)) _ | with_reducible refine Below.step2 (by with_reducible assumption) ?_ | with_reducible refine Below.step (by with_reducible assumption) ?_ (by first | omega | (simp <;> omega)))))); (focus (show Bk _ _ _ #[.int .i64 yd]; exact (by repeat (first | with_reducible assumption | with_reducible exact Bk.at_ (by first | (simp; done) | omega) | with_reducible refine Bk.alloc ?_ _ | with_reducible refine Bk.drew ?_ | with_reducible refine Bk.drewN ?_ _ | with_reducible refine Bk.step (by with_reducible assumption) ?_ (by first | omega | (simp <;> omega)))))); (focus (simp; omega)); intro v6 w6 ho6 hg6; have HO6 := Lib.hid ho6; have HG6 := Lib.hid hg6; clear ho6 hg6))
      go_roundw
      case rel =>
        have hb0 := HB.out
        have hc0 := HC.out
        refine ⟨k + 1, by omega, by go_num, ?_, ?_, ?_⟩
        · rw [HST.out]
          exact HO6.out
        · exact Below.grown_ (D := w1.heap.size) (by exact (by repeat (first | with_reducible exact Below.refl _ _ | with_reducible assumption | with_reducible refine Below.drew ?_ | with_reducible refine Below.drewN ?_ _ | with_reducible refine Below.alloc2 ?_ _ | with_reducible refine Below.alloc ?_ (by first | omega | (simp <;> omega)) _ | with_reducible refine Below.setCell ?_ (by first | omega | (simp <;> omega)) _ | with_reducible refine Below.step2 (by with_reducible assumption) ?_ | with_reducible refine Below.step (by with_reducible assumption) ?_ (by first | omega | (simp <;> omega))))) HG6.out (by simp; omega) (fun q hq => (HO.out.lt q hq).1)
        · exact Below.grown_ (D := w.heap.size) (by exact (by repeat (first | with_reducible exact Below.refl _ _ | with_reducible assumption | with_reducible refine Below.drew ?_ | with_reducible refine Below.drewN ?_ _ | with_reducible refine Below.alloc2 ?_ _ | with_reducible refine Below.alloc ?_ (by first | omega | (simp <;> omega)) _ | with_reducible refine Below.setCell ?_ (by first | omega | (simp <;> omega)) _ | with_reducible refine Below.step2 (by with_reducible assumption) ?_ | with_reducible refine Below.step (by with_reducible assumption) ?_ (by first | omega | (simp <;> omega))))) HG6.out (by have := hb0.size; (try simp); omega) (fun q hq => by have := (HO.out.lt q hq).1; omega)
      case measure => simp [intOf]; omega
    · have HOE : Hid (wr.ownsRow w.heap.size 3 1 u10 BB.length ((BB.map (·.d)).flatMap i1)) := Lib.hid (by
        have := own_base ho HB1.out.size
        rwa [List.take_of_length_le (by rw [HLN.out]; omega), List.length_map] at this)
      clear hb hc ho
      go_wp2
      go_ret2
      exact ⟨HB.out, u10, rfl, HOE.out⟩

end Go.Proofs.Ytbeijeblbchglaa
