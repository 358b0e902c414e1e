/- Several texts in one. -/
import Derived.Test.YtgjjjnofdjhikaaRefS9
import Derived.Test.YtgjjjnofdjhikaaRefPlat9
import Derived.Deep.DeepCutAuto
import Derived.Test.YtgjjjnofdjhikaaPlat9
import Derived.Test.YtgjjjnofdjhikaaPlatT9
/- Chapter 9, walks: Reasons of the reference. -/
namespace Go.Proofs.Ytgjjjnofdjhikaa
open Go.RowKit

section
variable {w : World} {base : Nat} {ops : Array Oper} {rest : List Oper} {o : Oper} {a : Act} {Q : Exit → Act → World → Prop}
/-- A number, behind a row of the call's own. -/
theorem app_i {W : List Int} {vw : Value} (h : w.ownsRow base 3 1 vw W.length (i64s W)) (hgd : o.guard = none) (s x : Operand) (ho : o.op = .call { callee := .builtin .append, args := #[s, x], argTypes := #[40, 40] })
    (hs : a.eval s = vw) (y : Int) (B : Nat) (hx : a.eval x = .slice (some ⟨B, 0, none⟩) 1 1) (hB : Bk w B 3 #[.int .i64 y]) (hn : W.length ≤ 30000) (hbase : base ≤ w.heap.size)
    (hK : ∀ v' w', w'.ownsRow base 3 1 v' (W ++ [y]).length (i64s (W ++ [y])) → w.grownBy w' vw.ownBlock → wpList Try.prog ops Q rest (a.put o.dst v') w') : wpList Try.prog ops Q (o :: rest) a w := by
  obtain ⟨i0, z, hi0, hz0, hzs, hz1, hz2⟩ := info_cells info_int9
  exact wpList_append_own_at w hgd s x _ ho base 3 i0 z 1 8 Try.underlying40 hi0 hz0 hz1 hz2 hzs (by omega) vw W.length (i64s W) hs h ⟨B, 0, none⟩ 1 1 [.int .i64 y] hx rfl (World.news_of_block (fr := (0, 0)) hB) (by intro u hu; simp at hu; subst hu; rfl) (by unfold maxLen; omega) (by omega) hbase fun v' w' h1 h2 _ h4 => hK v' w' (by simpa [i64s] using h1) h2
end
/-- The reasons, out of what is asked. -/
def one (b : Bool) (z : Int) : List Int := if b then [z] else []
def rs (b0 b1 b2 b3 b4 : Bool) : List Int := one b0 0 ++ one b1 1 ++ one b2 2 ++ one b3 3 ++ one b4 4
def psAt (F : List Ev) (z : Int) : Bool := match F[z.toNat]? with | some x => x.ps | none => false
def rB0 (F : List Ev) (p : ByteArray) : Bool := decide (lastTo F 0 p F.length < 0) || decide (lastTo F 0 p F.length < lastTo F 6 p F.length)
def rB1 (F : List Ev) (p : ByteArray) : Bool := decide (lastTo F 0 p F.length < 0) || decide (lastTo F 1 p F.length < lastTo F 0 p F.length) || !psAt F (lastTo F 1 p F.length)
def reasonsR (F : List Ev) (p : ByteArray) (day : Int) : List Int := rs (rB0 F p) (rB1 F p) (!freshB F p day) (decide (0 < (olistG true F p).length)) (decide (0 < (olistG false F p).length))
set_option maxRecDepth 100000 in
set_option maxHeartbeats 8000000 in
theorem reasonsR_any (A : Option Addr) (n c : Nat) (l : List Ev) (p : ByteArray) (day : Int) (w : World) (h : Rws Ev.cs 6 w w.heap.size A n c l) (hn : n ≤ 400) (hd : ∀ x ∈ l, 0 ≤ x.d ∧ x.d ≤ 1000000000) (h0 : 0 ≤ day) (h1 : day ≤ 1000000000) :
    Calls Try.prog 24 #[.slice A n c, .string p, .int .i64 day] w fun e w' => Below w.heap.size w w' ∧ ∃ v, e = .returned v ∧ w'.ownsRow w.heap.size 3 1 v (reasonsR (l.filter (upF day)) p day).length (i64s (reasonsR (l.filter (upF day)) p day)) := by
  have UP : Hid (Calls Try.prog 35 #[.slice A n c, .int .i64 day] w fun e w' => Below w.heap.size w w' ∧ ∃ v, e = .returned v ∧ w'.ownsRow w.heap.size 24 6 v (l.filter (upF day)).length ((l.filter (upF day)).flatMap Ev.cs)) := Lib.hid (refUptoE_any A n c l day w h (by omega))
  have hFd : ∀ x ∈ l.filter (upF day), 0 ≤ x.d ∧ x.d ≤ 1000000000 := fun x hx => hd x (List.mem_filter.1 hx).1
  have hFl : (l.filter (upF day)).length ≤ 400 := by have := List.length_filter_le (upF day) l; rw [h.len] at this; omega
  generalize l.filter (upF day) = F at UP hFd hFl ⊢
  have FR : Hid (∀ A c W, Rws Ev.cs 6 W W.heap.size A F.length c F → Calls Try.prog 53 #[.slice A F.length c, .string p, .int .i64 day] W fun e w' => W = w' ∧ e = .returned (.bool (freshB F p day))) := Lib.hid fun A c W hW => fresh_any A F.length c _ F p day W hW hFd h0 h1
  clear h hd
  have e0 : reasonsR F p day = rs (rB0 F p) (rB1 F p) (!freshB F p day) (decide (0 < (olistG true F p).length)) (decide (0 < (olistG false F p).length)) := rfl
  rw [e0]
  clear e0
  generalize freshB F p day = fb at FR ⊢
  obtain ⟨N, hN⟩ : ∃ N, F.length = N := ⟨_, rfl⟩
  rw [hN] at UP hFl FR
  obtain ⟨q0, hq0⟩ : ∃ q, lastTo F 0 p N = q := ⟨_, rfl⟩
  obtain ⟨q1, hq1⟩ : ∃ q, lastTo F 1 p N = q := ⟨_, rfl⟩
  obtain ⟨q6, hq6⟩ : ∃ q, lastTo F 6 p N = q := ⟨_, rfl⟩
  have L0 : Hid (∀ A c W, Rws Ev.cs 6 W W.heap.size A N c F → Calls Try.prog 52 #[.slice A N c, .int .i64 0, .string p] W fun e w' => W = w' ∧ e = .returned (.int .i64 q0)) := Lib.hid fun A c W hW => by have := last_any A N c _ F 0 p W hW; rwa [hq0] at this
  have L1 : Hid (∀ A c W, Rws Ev.cs 6 W W.heap.size A N c F → Calls Try.prog 52 #[.slice A N c, .int .i64 1, .string p] W fun e w' => W = w' ∧ e = .returned (.int .i64 q1)) := Lib.hid fun A c W hW => by have := last_any A N c _ F 1 p W hW; rwa [hq1] at this
  have L6 : Hid (∀ A c W, Rws Ev.cs 6 W W.heap.size A N c F → Calls Try.prog 52 #[.slice A N c, .int .i64 6, .string p] W fun e w' => W = w' ∧ e = .returned (.int .i64 q6)) := Lib.hid fun A c W hW => by have := last_any A N c _ F 6 p W hW; rwa [hq6] at this
  obtain ⟨M, hM⟩ : ∃ M : Bool → Nat, ∀ g, (olistG g F p).length = M g := ⟨fun g => (olistG g F p).length, fun g => rfl⟩
  have OG : Hid (∀ g A c W, Rws Ev.cs 6 W W.heap.size A N c F → Calls Try.prog 41 #[.slice A N c, .string p, .bool g, .bool false] W fun e w' => Below W.heap.size W w' ∧ ∃ A' c', e = .returned (.slice A' (M g) c')) := Lib.hid fun g A c W hW =>
    (opened_grave g A N c F p W hW (by omega)).mono fun e w' ⟨hb, A', m, c', he, hnum⟩ => ⟨hb, A', c', by rw [he, ← hM, hnum.len]⟩
  rw [hM, hM]
  have hb0 : rB0 F p = (decide (q0 < 0) || decide (q0 < q6)) := by unfold rB0; rw [hN, hq0, hq6]
  have hb1 : rB1 F p = (decide (q0 < 0) || decide (q1 < q0) || !psAt F q1) := by unfold rB1; rw [hN, hq0, hq1]
  have h1lt := lastTo_lt F 1 p N
  rw [hq1] at h1lt
  have HB0 := Lib.hid hb0
  have HB1 := Lib.hid hb1
  generalize rB0 F p = B0 at HB0 ⊢
  generalize rB1 F p = B1 at HB1 ⊢
  obtain ⟨M3, hM3⟩ : ∃ m, M true = m := ⟨_, rfl⟩
  obtain ⟨M4, hM4⟩ : ∃ m, M false = m := ⟨_, rfl⟩
  have O3 := Lib.hid (OG.out true)
  have O4 := Lib.hid (OG.out false)
  rw [hM3] at O3 ⊢
  rw [hM4] at O4 ⊢
  have HNL := Lib.hid hN
  obtain ⟨B3, hB3⟩ : ∃ b, decide (0 < M3) = b := ⟨_, rfl⟩
  have HB3 := Lib.hid hB3
  rw [hB3]
  obtain ⟨B4, hB4⟩ : ∃ b, decide (0 < M4) = b := ⟨_, rfl⟩
  have HB4 := Lib.hid hB4
  rw [hB4]
  clear hb0 hb1 hq0 hq1 hq6 hFd h0 h1 OG hM hM3 hM4 hN hB3 hB4
  by_cases k1 : q0 < 0
  · have e : B0 = true := by rw [HB0.out]; simp [k1]
    have e1 : B1 = true := by rw [HB1.out]; simp [k1]
    (
    go_enter Try.func24, Try.ntmps24
    go_upto_if 29 with (first
      | (go_at_call 35; refine UP.out.mono ?_; rintro e w1 ⟨hbw, v, rfl, hown⟩; obtain ⟨A1, c1, rfl, hr⟩ := Rws.of_own hown HNL.out; have HF : Hid (∀ W, Below w1.heap.size w1 W → Rws Ev.cs 6 W W.heap.size A1 N c1 F) := Lib.hid (fun W hW => hr.below hW (Nat.le_refl _) hW.size); have HB := Lib.hid (Below.refl w1.heap.size w1); have HBW := Lib.hid hbw; have hcap := hr.cap; have hmax := hr.max; clear hown hr hbw)
      | (go_at_call 52; with_reducible refine (L0.out _ _ _ (HF.out _ HB.out)).mono ?_; rintro e w' ⟨rfl, rfl⟩)
      | (go_at_call 52; with_reducible refine (L6.out _ _ _ (HF.out _ HB.out)).mono ?_; rintro e w' ⟨rfl, rfl⟩)
      | (go_at_call 52; with_reducible refine (L1.out _ _ _ (HF.out _ HB.out)).mono ?_; rintro e w' ⟨rfl, rfl⟩))
    have ow1 := HB.out.size
    go_cut [10] (fun v wx => ∃ os : List Int, Hid (os = one B0 0) ∧ wx.ownsRow w1.heap.size 3 1 v os.length (i64s os) ∧ Below w1.heap.size w1 wx)
    case first =>
      obtain ⟨os, hos⟩ : ∃ os : List Int, os = [] := ⟨_, rfl⟩
      have HOS := Lib.hid hos
      have HO : Hid (w1.ownsRow w1.heap.size 3 1 (.slice none 0 0) os.length (i64s os)) := Lib.hid (by rw [hos]; exact World.ownsRow_nil _ _ _ _)
      have hol : os.length ≤ 5 := by rw [hos]; simp
      clear hos
      (go_wp2_with (at_builtin; go_loud (refine app_i (W := os) (base := w1.heap.size) ?_ rfl _ _ rfl rfl 0 _ rfl ?_ (by first | (simp; done) | omega) ?_ ?_; (exact own_step HO.out (by exact (by repeat (first | with_reducible exact Below.refl _ _ | with_reducible assumption | with_reducible refine Below.drew ?_ | with_reducible refine Below.drewN ?_ _ | with_reducible refine Below.alloc2 ?_ _ | with_reducible refine Below.alloc ?_ (by first | omega | (simp <;> omega)) _ | with_reducible refine Below.setCell ?_ (by first | omega | (simp <;> omega)) _ | with_reducible refine Below.step2 (by with_reducible assumption) ?_ | with_reducible refine Below.step (by with_reducible assumption) ?_ (by first | omega | (simp <;> omega)))))); (focus (exact (by repeat (first | with_reducible assumption | with_reducible exact Bk.at_ (by first | (simp; done) | omega) | with_reducible refine Bk.alloc ?_ _ | with_reducible refine Bk.drew ?_ | with_reducible refine Bk.drewN ?_ _ | with_reducible refine Bk.step (by with_reducible assumption) ?_ (by first | omega | (simp <;> omega)))))); (focus (have := HB.out.size; first | (simp; done) | (simp; omega) | omega)); intro v1 wn ho1 hg1; have HO1 := Lib.hid ho1; have HN1 : Hid (Below w1.heap.size w1 wn) := Lib.hid (Below.grown_ (by have hb0 := HB.out; exact (by repeat (first | with_reducible exact Below.refl _ _ | with_reducible assumption | with_reducible refine Below.drew ?_ | with_reducible refine Below.drewN ?_ _ | with_reducible refine Below.alloc2 ?_ _ | with_reducible refine Below.alloc ?_ (by first | omega | (simp <;> omega)) _ | with_reducible refine Below.setCell ?_ (by first | omega | (simp <;> omega)) _ | with_reducible refine Below.step2 (by with_reducible assumption) ?_ | with_reducible refine Below.step (by with_reducible assumption) ?_ (by first | omega | (simp <;> omega))))) hg1 (by have := HB.out.size; first | (simp; done) | (simp; omega) | omega) (fun q hq => (HO.out.lt q hq).1)); clear ho1 hg1))
       go_meet
       case rel => exact ⟨os ++ [0], Lib.hid (by rw [HOS.out]; rw [e]; rfl), HO1.out, HN1.out⟩)
    case rest =>
      clear HB
      (try clear HOS HO HB)
      obtain ⟨os, HOS, hor, hbr⟩ := hcut
      have HO := Lib.hid hor
      have HB := Lib.hid hbr
      have ow := hbr.size
      have hol : os.length ≤ 5 := by rw [HOS.out]; cases B0 <;> (try cases B1) <;> (try cases fb) <;> (try cases B3) <;> (try cases B4) <;> simp [one]
      clear hor hbr
      skip
      go_upto_if 47 with (fail)
      go_cut [10] (fun v wx => ∃ os : List Int, Hid (os = one B0 0 ++ one B1 1) ∧ wx.ownsRow w1.heap.size 3 1 v os.length (i64s os) ∧ Below w1.heap.size w1 wx)
      case first =>
        (go_wp2_with (at_builtin; go_loud (refine app_i (W := os) (base := w1.heap.size) ?_ rfl _ _ rfl rfl 1 _ rfl ?_ (by first | (simp; done) | omega) ?_ ?_; (exact own_step HO.out (by exact (by repeat (first | with_reducible exact Below.refl _ _ | with_reducible assumption | with_reducible refine Below.drew ?_ | with_reducible refine Below.drewN ?_ _ | with_reducible refine Below.alloc2 ?_ _ | with_reducible refine Below.alloc ?_ (by first | omega | (simp <;> omega)) _ | with_reducible refine Below.setCell ?_ (by first | omega | (simp <;> omega)) _ | with_reducible refine Below.step2 (by with_reducible assumption) ?_ | with_reducible refine Below.step (by with_reducible assumption) ?_ (by first | omega | (simp <;> omega)))))); (focus (exact (by repeat (first | with_reducible assumption | with_reducible exact Bk.at_ (by first | (simp; done) | omega) | with_reducible refine Bk.alloc ?_ _ | with_reducible refine Bk.drew ?_ | with_reducible refine Bk.drewN ?_ _ | with_reducible refine Bk.step (by with_reducible assumption) ?_ (by first | omega | (simp <;> omega)))))); (focus (have := HB.out.size; first | (simp; done) | (simp; omega) | omega)); intro v1 wn ho1 hg1; have HO1 := Lib.hid ho1; have HN1 : Hid (Below w1.heap.size w1 wn) := Lib.hid (Below.grown_ (by have hb0 := HB.out; exact (by repeat (first | with_reducible exact Below.refl _ _ | with_reducible assumption | with_reducible refine Below.drew ?_ | with_reducible refine Below.drewN ?_ _ | with_reducible refine Below.alloc2 ?_ _ | with_reducible refine Below.alloc ?_ (by first | omega | (simp <;> omega)) _ | with_reducible refine Below.setCell ?_ (by first | omega | (simp <;> omega)) _ | with_reducible refine Below.step2 (by with_reducible assumption) ?_ | with_reducible refine Below.step (by with_reducible assumption) ?_ (by first | omega | (simp <;> omega))))) hg1 (by have := HB.out.size; first | (simp; done) | (simp; omega) | omega) (fun q hq => (HO.out.lt q hq).1)); clear ho1 hg1))
         go_meet
         case rel => exact ⟨os ++ [1], Lib.hid (by rw [HOS.out]; rw [e1]; rfl), HO1.out, HN1.out⟩)
      case rest =>
        (try clear HOS HO HB)
        obtain ⟨os, HOS, hor, hbr⟩ := hcut
        have HO := Lib.hid hor
        have HB := Lib.hid hbr
        have ow := hbr.size
        have hol : os.length ≤ 5 := by rw [HOS.out]; cases B0 <;> (try cases B1) <;> (try cases fb) <;> (try cases B3) <;> (try cases B4) <;> simp [one]
        clear hor hbr
        go_upto_if 55 with (go_at_call 53; with_reducible refine (FR.out _ _ _ (HF.out _ HB.out)).mono ?_; rintro e w' ⟨rfl, rfl⟩)
        go_cut [10] (fun v wx => ∃ os : List Int, Hid (os = one B0 0 ++ one B1 1 ++ one (!fb) 2) ∧ wx.ownsRow w1.heap.size 3 1 v os.length (i64s os) ∧ Below w1.heap.size w1 wx)
        case first =>
          cases fb
          · (go_wp2_with (at_builtin; go_loud (refine app_i (W := os) (base := w1.heap.size) ?_ rfl _ _ rfl rfl 2 _ rfl ?_ (by first | (simp; done) | omega) ?_ ?_; (exact own_step HO.out (by exact (by repeat (first | with_reducible exact Below.refl _ _ | with_reducible assumption | with_reducible refine Below.drew ?_ | with_reducible refine Below.drewN ?_ _ | with_reducible refine Below.alloc2 ?_ _ | with_reducible refine Below.alloc ?_ (by first | omega | (simp <;> omega)) _ | with_reducible refine Below.setCell ?_ (by first | omega | (simp <;> omega)) _ | with_reducible refine Below.step2 (by with_reducible assumption) ?_ | with_reducible refine Below.step (by with_reducible assumption) ?_ (by first | omega | (simp <;> omega)))))); (focus (exact (by repeat (first | with_reducible assumption | with_reducible exact Bk.at_ (by first | (simp; done) | omega) | with_reducible refine Bk.alloc ?_ _ | with_reducible refine Bk.drew ?_ | with_reducible refine Bk.drewN ?_ _ | with_reducible refine Bk.step (by with_reducible assumption) ?_ (by first | omega | (simp <;> omega)))))); (focus (have := HB.out.size; first | (simp; done) | (simp; omega) | omega)); intro v1 wn ho1 hg1; have HO1 := Lib.hid ho1; have HN1 : Hid (Below w1.heap.size w1 wn) := Lib.hid (Below.grown_ (by have hb0 := HB.out; exact (by repeat (first | with_reducible exact Below.refl _ _ | with_reducible assumption | with_reducible refine Below.drew ?_ | with_reducible refine Below.drewN ?_ _ | with_reducible refine Below.alloc2 ?_ _ | with_reducible refine Below.alloc ?_ (by first | omega | (simp <;> omega)) _ | with_reducible refine Below.setCell ?_ (by first | omega | (simp <;> omega)) _ | with_reducible refine Below.step2 (by with_reducible assumption) ?_ | with_reducible refine Below.step (by with_reducible assumption) ?_ (by first | omega | (simp <;> omega))))) hg1 (by have := HB.out.size; first | (simp; done) | (simp; omega) | omega) (fun q hq => (HO.out.lt q hq).1)); clear ho1 hg1))
             go_meet
             case rel => exact ⟨os ++ [2], Lib.hid (by rw [HOS.out]; rfl), HO1.out, HN1.out⟩)
          · (go_wp2
             go_meet
             case rel => exact ⟨os, Lib.hid (by rw [HOS.out]; simp [one]), HO.out, HB.out⟩)
        case rest =>
          (try clear HOS HO HB)
          obtain ⟨os, HOS, hor, hbr⟩ := hcut
          have HO := Lib.hid hor
          have HB := Lib.hid hbr
          have ow := hbr.size
          have hol : os.length ≤ 5 := by rw [HOS.out]; cases B0 <;> (try cases B1) <;> (try cases fb) <;> (try cases B3) <;> (try cases B4) <;> simp [one]
          clear hor hbr
          go_upto_if 63 with (go_at_call 41; with_reducible refine (O3.out _ _ _ (HF.out _ HB.out)).mono ?_; rintro e w2 ⟨hb2, A', c', rfl⟩; have HO2 := Lib.hid (own_step HO.out hb2); have HB2 : Hid (Below w1.heap.size w1 w2) := Lib.hid (HB.out.trans (hb2.mono HB.out.size)); have ow2 := HB2.out.size; clear hb2)
          go_cut [10] (fun v wx => ∃ os : List Int, Hid (os = one B0 0 ++ one B1 1 ++ one (!fb) 2 ++ one B3 3) ∧ wx.ownsRow w1.heap.size 3 1 v os.length (i64s os) ∧ Below w1.heap.size w1 wx)
          case first =>
            by_cases k3 : 0 < M3
            · have e : B3 = true := by rw [← HB3.out]; simp [k3]
              (go_wp2_with (at_builtin; go_loud (refine app_i (W := os) (base := w1.heap.size) ?_ rfl _ _ rfl rfl 3 _ rfl ?_ (by first | (simp; done) | omega) ?_ ?_; (exact own_step HO2.out (by exact (by repeat (first | with_reducible exact Below.refl _ _ | with_reducible assumption | with_reducible refine Below.drew ?_ | with_reducible refine Below.drewN ?_ _ | with_reducible refine Below.alloc2 ?_ _ | with_reducible refine Below.alloc ?_ (by first | omega | (simp <;> omega)) _ | with_reducible refine Below.setCell ?_ (by first | omega | (simp <;> omega)) _ | with_reducible refine Below.step2 (by with_reducible assumption) ?_ | with_reducible refine Below.step (by with_reducible assumption) ?_ (by first | omega | (simp <;> omega)))))); (focus (exact (by repeat (first | with_reducible assumption | with_reducible exact Bk.at_ (by first | (simp; done) | omega) | with_reducible refine Bk.alloc ?_ _ | with_reducible refine Bk.drew ?_ | with_reducible refine Bk.drewN ?_ _ | with_reducible refine Bk.step (by with_reducible assumption) ?_ (by first | omega | (simp <;> omega)))))); (focus (have := HB2.out.size; first | (simp; done) | (simp; omega) | omega)); intro v1 wn ho1 hg1; have HO1 := Lib.hid ho1; have HN1 : Hid (Below w1.heap.size w1 wn) := Lib.hid (Below.grown_ (by have hb0 := HB2.out; exact (by repeat (first | with_reducible exact Below.refl _ _ | with_reducible assumption | with_reducible refine Below.drew ?_ | with_reducible refine Below.drewN ?_ _ | with_reducible refine Below.alloc2 ?_ _ | with_reducible refine Below.alloc ?_ (by first | omega | (simp <;> omega)) _ | with_reducible refine Below.setCell ?_ (by first | omega | (simp <;> omega)) _ | with_reducible refine Below.step2 (by with_reducible assumption) ?_ | with_reducible refine Below.step (by with_reducible assumption) ?_ (by first | omega | (simp <;> omega))))) hg1 (by have := HB2.out.size; first | (simp; done) | (simp; omega) | omega) (fun q hq => (HO2.out.lt q hq).1)); clear ho1 hg1))
               go_meet
               case rel => exact ⟨os ++ [3], Lib.hid (by rw [HOS.out]; rw [e]; rfl), HO1.out, HN1.out⟩)
            · have e : B3 = false := by rw [← HB3.out]; simp [k3]
              (go_wp2
               go_meet
               case rel => exact ⟨os, Lib.hid (by rw [HOS.out]; rw [e]; simp [one]), HO2.out, HB2.out⟩)
          case rest =>
            (try clear HOS HO HB)
            obtain ⟨os, HOS, hor, hbr⟩ := hcut
            have HO := Lib.hid hor
            have HB := Lib.hid hbr
            have ow := hbr.size
            have hol : os.length ≤ 5 := by rw [HOS.out]; cases B0 <;> (try cases B1) <;> (try cases fb) <;> (try cases B3) <;> (try cases B4) <;> simp [one]
            clear hor hbr
            go_upto_if 71 with (go_at_call 41; with_reducible refine (O4.out _ _ _ (HF.out _ HB.out)).mono ?_; rintro e w2 ⟨hb2, A', c', rfl⟩; have HO2 := Lib.hid (own_step HO.out hb2); have HB2 : Hid (Below w1.heap.size w1 w2) := Lib.hid (HB.out.trans (hb2.mono HB.out.size)); have ow2 := HB2.out.size; clear hb2)
            go_cut [10] (fun v wx => ∃ os : List Int, Hid (os = one B0 0 ++ one B1 1 ++ one (!fb) 2 ++ one B3 3 ++ one B4 4) ∧ wx.ownsRow w1.heap.size 3 1 v os.length (i64s os) ∧ Below w1.heap.size w1 wx)
            case first =>
              by_cases k4 : 0 < M4
              · have e : B4 = true := by rw [← HB4.out]; simp [k4]
                (go_wp2_with (at_builtin; go_loud (refine app_i (W := os) (base := w1.heap.size) ?_ rfl _ _ rfl rfl 4 _ rfl ?_ (by first | (simp; done) | omega) ?_ ?_; (exact own_step HO2.out (by exact (by repeat (first | with_reducible exact Below.refl _ _ | with_reducible assumption | with_reducible refine Below.drew ?_ | with_reducible refine Below.drewN ?_ _ | with_reducible refine Below.alloc2 ?_ _ | with_reducible refine Below.alloc ?_ (by first | omega | (simp <;> omega)) _ | with_reducible refine Below.setCell ?_ (by first | omega | (simp <;> omega)) _ | with_reducible refine Below.step2 (by with_reducible assumption) ?_ | with_reducible refine Below.step (by with_reducible assumption) ?_ (by first | omega | (simp <;> omega)))))); (focus (exact (by repeat (first | with_reducible assumption | with_reducible exact Bk.at_ (by first | (simp; done) | omega) | with_reducible refine Bk.alloc ?_ _ | with_reducible refine Bk.drew ?_ | with_reducible refine Bk.drewN ?_ _ | with_reducible refine Bk.step (by with_reducible assumption) ?_ (by first | omega | (simp <;> omega)))))); (focus (have := HB2.out.size; first | (simp; done) | (simp; omega) | omega)); intro v1 wn ho1 hg1; have HO1 := Lib.hid ho1; have HN1 : Hid (Below w1.heap.size w1 wn) := Lib.hid (Below.grown_ (by have hb0 := HB2.out; exact (by repeat (first | with_reducible exact Below.refl _ _ | with_reducible assumption | with_reducible refine Below.drew ?_ | with_reducible refine Below.drewN ?_ _ | with_reducible refine Below.alloc2 ?_ _ | with_reducible refine Below.alloc ?_ (by first | omega | (simp <;> omega)) _ | with_reducible refine Below.setCell ?_ (by first | omega | (simp <;> omega)) _ | with_reducible refine Below.step2 (by with_reducible assumption) ?_ | with_reducible refine Below.step (by with_reducible assumption) ?_ (by first | omega | (simp <;> omega))))) hg1 (by have := HB2.out.size; first | (simp; done) | (simp; omega) | omega) (fun q hq => (HO2.out.lt q hq).1)); clear ho1 hg1))
                 go_meet
                 case rel => exact ⟨os ++ [4], Lib.hid (by rw [HOS.out]; rw [e]; rfl), HO1.out, HN1.out⟩)
              · have e : B4 = false := by rw [← HB4.out]; simp [k4]
                (go_wp2
                 go_meet
                 case rel => exact ⟨os, Lib.hid (by rw [HOS.out]; rw [e]; simp [one]), HO2.out, HB2.out⟩)
            case rest =>
              (try clear HOS HO HB)
              obtain ⟨os, HOS, hor, hbr⟩ := hcut
              have HO := Lib.hid hor
              have HB := Lib.hid hbr
              have ow := hbr.size
              have hol : os.length ≤ 5 := by rw [HOS.out]; cases B0 <;> (try cases B1) <;> (try cases fb) <;> (try cases B3) <;> (try cases B4) <;> simp [one]
              clear hor hbr
              go_wp2
              go_ret
              refine ⟨HBW.out.trans (HB.out.mono HBW.out.size), _, rfl, ?_⟩
              have e : os = rs B0 B1 (!fb) B3 B4 := HOS.out
              rw [← e]
              exact own_base HO.out HBW.out.size)
  by_cases k5 : q1 < q0
  · have e1 : B1 = true := by rw [HB1.out]; simp [k5]
    (
    go_enter Try.func24, Try.ntmps24
    go_upto_if 29 with (first
      | (go_at_call 35; refine UP.out.mono ?_; rintro e w1 ⟨hbw, v, rfl, hown⟩; obtain ⟨A1, c1, rfl, hr⟩ := Rws.of_own hown HNL.out; have HF : Hid (∀ W, Below w1.heap.size w1 W → Rws Ev.cs 6 W W.heap.size A1 N c1 F) := Lib.hid (fun W hW => hr.below hW (Nat.le_refl _) hW.size); have HB := Lib.hid (Below.refl w1.heap.size w1); have HBW := Lib.hid hbw; have hcap := hr.cap; have hmax := hr.max; clear hown hr hbw)
      | (go_at_call 52; with_reducible refine (L0.out _ _ _ (HF.out _ HB.out)).mono ?_; rintro e w' ⟨rfl, rfl⟩)
      | (go_at_call 52; with_reducible refine (L6.out _ _ _ (HF.out _ HB.out)).mono ?_; rintro e w' ⟨rfl, rfl⟩)
      | (go_at_call 52; with_reducible refine (L1.out _ _ _ (HF.out _ HB.out)).mono ?_; rintro e w' ⟨rfl, rfl⟩))
    have ow1 := HB.out.size
    go_cut [10] (fun v wx => ∃ os : List Int, Hid (os = one B0 0) ∧ wx.ownsRow w1.heap.size 3 1 v os.length (i64s os) ∧ Below w1.heap.size w1 wx)
    case first =>
      obtain ⟨os, hos⟩ : ∃ os : List Int, os = [] := ⟨_, rfl⟩
      have HOS := Lib.hid hos
      have HO : Hid (w1.ownsRow w1.heap.size 3 1 (.slice none 0 0) os.length (i64s os)) := Lib.hid (by rw [hos]; exact World.ownsRow_nil _ _ _ _)
      have hol : os.length ≤ 5 := by rw [hos]; simp
      clear hos
      by_cases k2 : q0 < q6
      · have e : B0 = true := by rw [HB0.out]; simp [k2]
        (go_wp2_with (at_builtin; go_loud (refine app_i (W := os) (base := w1.heap.size) ?_ rfl _ _ rfl rfl 0 _ rfl ?_ (by first | (simp; done) | omega) ?_ ?_; (exact own_step HO.out (by exact (by repeat (first | with_reducible exact Below.refl _ _ | with_reducible assumption | with_reducible refine Below.drew ?_ | with_reducible refine Below.drewN ?_ _ | with_reducible refine Below.alloc2 ?_ _ | with_reducible refine Below.alloc ?_ (by first | omega | (simp <;> omega)) _ | with_reducible refine Below.setCell ?_ (by first | omega | (simp <;> omega)) _ | with_reducible refine Below.step2 (by with_reducible assumption) ?_ | with_reducible refine Below.step (by with_reducible assumption) ?_ (by first | omega | (simp <;> omega)))))); (focus (exact (by repeat (first | with_reducible assumption | with_reducible exact Bk.at_ (by first | (simp; done) | omega) | with_reducible refine Bk.alloc ?_ _ | with_reducible refine Bk.drew ?_ | with_reducible refine Bk.drewN ?_ _ | with_reducible refine Bk.step (by with_reducible assumption) ?_ (by first | omega | (simp <;> omega)))))); (focus (have := HB.out.size; first | (simp; done) | (simp; omega) | omega)); intro v1 wn ho1 hg1; have HO1 := Lib.hid ho1; have HN1 : Hid (Below w1.heap.size w1 wn) := Lib.hid (Below.grown_ (by have hb0 := HB.out; exact (by repeat (first | with_reducible exact Below.refl _ _ | with_reducible assumption | with_reducible refine Below.drew ?_ | with_reducible refine Below.drewN ?_ _ | with_reducible refine Below.alloc2 ?_ _ | with_reducible refine Below.alloc ?_ (by first | omega | (simp <;> omega)) _ | with_reducible refine Below.setCell ?_ (by first | omega | (simp <;> omega)) _ | with_reducible refine Below.step2 (by with_reducible assumption) ?_ | with_reducible refine Below.step (by with_reducible assumption) ?_ (by first | omega | (simp <;> omega))))) hg1 (by have := HB.out.size; first | (simp; done) | (simp; omega) | omega) (fun q hq => (HO.out.lt q hq).1)); clear ho1 hg1))
         go_meet
         case rel => exact ⟨os ++ [0], Lib.hid (by rw [HOS.out]; rw [e]; rfl), HO1.out, HN1.out⟩)
      · have e : B0 = false := by rw [HB0.out]; simp [k1, k2]
        (go_wp2
         go_meet
         case rel => exact ⟨os, Lib.hid (by rw [HOS.out]; rw [e]; simp [one]), HO.out, HB.out⟩)
    case rest =>
      clear HB
      (try clear HOS HO HB)
      obtain ⟨os, HOS, hor, hbr⟩ := hcut
      have HO := Lib.hid hor
      have HB := Lib.hid hbr
      have ow := hbr.size
      have hol : os.length ≤ 5 := by rw [HOS.out]; cases B0 <;> (try cases B1) <;> (try cases fb) <;> (try cases B3) <;> (try cases B4) <;> simp [one]
      clear hor hbr
      skip
      go_upto_if 47 with (fail)
      go_cut [10] (fun v wx => ∃ os : List Int, Hid (os = one B0 0 ++ one B1 1) ∧ wx.ownsRow w1.heap.size 3 1 v os.length (i64s os) ∧ Below w1.heap.size w1 wx)
      case first =>
        (go_wp2_with (at_builtin; go_loud (refine app_i (W := os) (base := w1.heap.size) ?_ rfl _ _ rfl rfl 1 _ rfl ?_ (by first | (simp; done) | omega) ?_ ?_; (exact own_step HO.out (by exact (by repeat (first | with_reducible exact Below.refl _ _ | with_reducible assumption | with_reducible refine Below.drew ?_ | with_reducible refine Below.drewN ?_ _ | with_reducible refine Below.alloc2 ?_ _ | with_reducible refine Below.alloc ?_ (by first | omega | (simp <;> omega)) _ | with_reducible refine Below.setCell ?_ (by first | omega | (simp <;> omega)) _ | with_reducible refine Below.step2 (by with_reducible assumption) ?_ | with_reducible refine Below.step (by with_reducible assumption) ?_ (by first | omega | (simp <;> omega)))))); (focus (exact (by repeat (first | with_reducible assumption | with_reducible exact Bk.at_ (by first | (simp; done) | omega) | with_reducible refine Bk.alloc ?_ _ | with_reducible refine Bk.drew ?_ | with_reducible refine Bk.drewN ?_ _ | with_reducible refine Bk.step (by with_reducible assumption) ?_ (by first | omega | (simp <;> omega)))))); (focus (have := HB.out.size; first | (simp; done) | (simp; omega) | omega)); intro v1 wn ho1 hg1; have HO1 := Lib.hid ho1; have HN1 : Hid (Below w1.heap.size w1 wn) := Lib.hid (Below.grown_ (by have hb0 := HB.out; exact (by repeat (first | with_reducible exact Below.refl _ _ | with_reducible assumption | with_reducible refine Below.drew ?_ | with_reducible refine Below.drewN ?_ _ | with_reducible refine Below.alloc2 ?_ _ | with_reducible refine Below.alloc ?_ (by first | omega | (simp <;> omega)) _ | with_reducible refine Below.setCell ?_ (by first | omega | (simp <;> omega)) _ | with_reducible refine Below.step2 (by with_reducible assumption) ?_ | with_reducible refine Below.step (by with_reducible assumption) ?_ (by first | omega | (simp <;> omega))))) hg1 (by have := HB.out.size; first | (simp; done) | (simp; omega) | omega) (fun q hq => (HO.out.lt q hq).1)); clear ho1 hg1))
         go_meet
         case rel => exact ⟨os ++ [1], Lib.hid (by rw [HOS.out]; rw [e1]; rfl), HO1.out, HN1.out⟩)
      case rest =>
        (try clear HOS HO HB)
        obtain ⟨os, HOS, hor, hbr⟩ := hcut
        have HO := Lib.hid hor
        have HB := Lib.hid hbr
        have ow := hbr.size
        have hol : os.length ≤ 5 := by rw [HOS.out]; cases B0 <;> (try cases B1) <;> (try cases fb) <;> (try cases B3) <;> (try cases B4) <;> simp [one]
        clear hor hbr
        go_upto_if 55 with (go_at_call 53; with_reducible refine (FR.out _ _ _ (HF.out _ HB.out)).mono ?_; rintro e w' ⟨rfl, rfl⟩)
        go_cut [10] (fun v wx => ∃ os : List Int, Hid (os = one B0 0 ++ one B1 1 ++ one (!fb) 2) ∧ wx.ownsRow w1.heap.size 3 1 v os.length (i64s os) ∧ Below w1.heap.size w1 wx)
        case first =>
          cases fb
          · (go_wp2_with (at_builtin; go_loud (refine app_i (W := os) (base := w1.heap.size) ?_ rfl _ _ rfl rfl 2 _ rfl ?_ (by first | (simp; done) | omega) ?_ ?_; (exact own_step HO.out (by exact (by repeat (first | with_reducible exact Below.refl _ _ | with_reducible assumption | with_reducible refine Below.drew ?_ | with_reducible refine Below.drewN ?_ _ | with_reducible refine Below.alloc2 ?_ _ | with_reducible refine Below.alloc ?_ (by first | omega | (simp <;> omega)) _ | with_reducible refine Below.setCell ?_ (by first | omega | (simp <;> omega)) _ | with_reducible refine Below.step2 (by with_reducible assumption) ?_ | with_reducible refine Below.step (by with_reducible assumption) ?_ (by first | omega | (simp <;> omega)))))); (focus (exact (by repeat (first | with_reducible assumption | with_reducible exact Bk.at_ (by first | (simp; done) | omega) | with_reducible refine Bk.alloc ?_ _ | with_reducible refine Bk.drew ?_ | with_reducible refine Bk.drewN ?_ _ | with_reducible refine Bk.step (by with_reducible assumption) ?_ (by first | omega | (simp <;> omega)))))); (focus (have := HB.out.size; first | (simp; done) | (simp; omega) | omega)); intro v1 wn ho1 hg1; have HO1 := Lib.hid ho1; have HN1 : Hid (Below w1.heap.size w1 wn) := Lib.hid (Below.grown_ (by have hb0 := HB.out; exact (by repeat (first | with_reducible exact Below.refl _ _ | with_reducible assumption | with_reducible refine Below.drew ?_ | with_reducible refine Below.drewN ?_ _ | with_reducible refine Below.alloc2 ?_ _ | with_reducible refine Below.alloc ?_ (by first | omega | (simp <;> omega)) _ | with_reducible refine Below.setCell ?_ (by first | omega | (simp <;> omega)) _ | with_reducible refine Below.step2 (by with_reducible assumption) ?_ | with_reducible refine Below.step (by with_reducible assumption) ?_ (by first | omega | (simp <;> omega))))) hg1 (by have := HB.out.size; first | (simp; done) | (simp; omega) | omega) (fun q hq => (HO.out.lt q hq).1)); clear ho1 hg1))
             go_meet
             case rel => exact ⟨os ++ [2], Lib.hid (by rw [HOS.out]; rfl), HO1.out, HN1.out⟩)
          · (go_wp2
             go_meet
             case rel => exact ⟨os, Lib.hid (by rw [HOS.out]; simp [one]), HO.out, HB.out⟩)
        case rest =>
          (try clear HOS HO HB)
          obtain ⟨os, HOS, hor, hbr⟩ := hcut
          have HO := Lib.hid hor
          have HB := Lib.hid hbr
          have ow := hbr.size
          have hol : os.length ≤ 5 := by rw [HOS.out]; cases B0 <;> (try cases B1) <;> (try cases fb) <;> (try cases B3) <;> (try cases B4) <;> simp [one]
          clear hor hbr
          go_upto_if 63 with (go_at_call 41; with_reducible refine (O3.out _ _ _ (HF.out _ HB.out)).mono ?_; rintro e w2 ⟨hb2, A', c', rfl⟩; have HO2 := Lib.hid (own_step HO.out hb2); have HB2 : Hid (Below w1.heap.size w1 w2) := Lib.hid (HB.out.trans (hb2.mono HB.out.size)); have ow2 := HB2.out.size; clear hb2)
          go_cut [10] (fun v wx => ∃ os : List Int, Hid (os = one B0 0 ++ one B1 1 ++ one (!fb) 2 ++ one B3 3) ∧ wx.ownsRow w1.heap.size 3 1 v os.length (i64s os) ∧ Below w1.heap.size w1 wx)
          case first =>
            by_cases k3 : 0 < M3
            · have e : B3 = true := by rw [← HB3.out]; simp [k3]
              (go_wp2_with (at_builtin; go_loud (refine app_i (W := os) (base := w1.heap.size) ?_ rfl _ _ rfl rfl 3 _ rfl ?_ (by first | (simp; done) | omega) ?_ ?_; (exact own_step HO2.out (by exact (by repeat (first | with_reducible exact Below.refl _ _ | with_reducible assumption | with_reducible refine Below.drew ?_ | with_reducible refine Below.drewN ?_ _ | with_reducible refine Below.alloc2 ?_ _ | with_reducible refine Below.alloc ?_ (by first | omega | (simp <;> omega)) _ | with_reducible refine Below.setCell ?_ (by first | omega | (simp <;> omega)) _ | with_reducible refine Below.step2 (by with_reducible assumption) ?_ | with_reducible refine Below.step (by with_reducible assumption) ?_ (by first | omega | (simp <;> omega)))))); (focus (exact (by repeat (first | with_reducible assumption | with_reducible exact Bk.at_ (by first | (simp; done) | omega) | with_reducible refine Bk.alloc ?_ _ | with_reducible refine Bk.drew ?_ | with_reducible refine Bk.drewN ?_ _ | with_reducible refine Bk.step (by with_reducible assumption) ?_ (by first | omega | (simp <;> omega)))))); (focus (have := HB2.out.size; first | (simp; done) | (simp; omega) | omega)); intro v1 wn ho1 hg1; have HO1 := Lib.hid ho1; have HN1 : Hid (Below w1.heap.size w1 wn) := Lib.hid (Below.grown_ (by have hb0 := HB2.out; exact (by repeat (first | with_reducible exact Below.refl _ _ | with_reducible assumption | with_reducible refine Below.drew ?_ | with_reducible refine Below.drewN ?_ _ | with_reducible refine Below.alloc2 ?_ _ | with_reducible refine Below.alloc ?_ (by first | omega | (simp <;> omega)) _ | with_reducible refine Below.setCell ?_ (by first | omega | (simp <;> omega)) _ | with_reducible refine Below.step2 (by with_reducible assumption) ?_ | with_reducible refine Below.step (by with_reducible assumption) ?_ (by first | omega | (simp <;> omega))))) hg1 (by have := HB2.out.size; first | (simp; done) | (simp; omega) | omega) (fun q hq => (HO2.out.lt q hq).1)); clear ho1 hg1))
               go_meet
               case rel => exact ⟨os ++ [3], Lib.hid (by rw [HOS.out]; rw [e]; rfl), HO1.out, HN1.out⟩)
            · have e : B3 = false := by rw [← HB3.out]; simp [k3]
              (go_wp2
               go_meet
               case rel => exact ⟨os, Lib.hid (by rw [HOS.out]; rw [e]; simp [one]), HO2.out, HB2.out⟩)
          case rest =>
            (try clear HOS HO HB)
            obtain ⟨os, HOS, hor, hbr⟩ := hcut
            have HO := Lib.hid hor
            have HB := Lib.hid hbr
            have ow := hbr.size
            have hol : os.length ≤ 5 := by rw [HOS.out]; cases B0 <;> (try cases B1) <;> (try cases fb) <;> (try cases B3) <;> (try cases B4) <;> simp [one]
            clear hor hbr
            go_upto_if 71 with (go_at_call 41; with_reducible refine (O4.out _ _ _ (HF.out _ HB.out)).mono ?_; rintro e w2 ⟨hb2, A', c', rfl⟩; have HO2 := Lib.hid (own_step HO.out hb2); have HB2 : Hid (Below w1.heap.size w1 w2) := Lib.hid (HB.out.trans (hb2.mono HB.out.size)); have ow2 := HB2.out.size; clear hb2)
            go_cut [10] (fun v wx => ∃ os : List Int, Hid (os = one B0 0 ++ one B1 1 ++ one (!fb) 2 ++ one B3 3 ++ one B4 4) ∧ wx.ownsRow w1.heap.size 3 1 v os.length (i64s os) ∧ Below w1.heap.size w1 wx)
            case first =>
              by_cases k4 : 0 < M4
              · have e : B4 = true := by rw [← HB4.out]; simp [k4]
                (go_wp2_with (at_builtin; go_loud (refine app_i (W := os) (base := w1.heap.size) ?_ rfl _ _ rfl rfl 4 _ rfl ?_ (by first | (simp; done) | omega) ?_ ?_; (exact own_step HO2.out (by exact (by repeat (first | with_reducible exact Below.refl _ _ | with_reducible assumption | with_reducible refine Below.drew ?_ | with_reducible refine Below.drewN ?_ _ | with_reducible refine Below.alloc2 ?_ _ | with_reducible refine Below.alloc ?_ (by first | omega | (simp <;> omega)) _ | with_reducible refine Below.setCell ?_ (by first | omega | (simp <;> omega)) _ | with_reducible refine Below.step2 (by with_reducible assumption) ?_ | with_reducible refine Below.step (by with_reducible assumption) ?_ (by first | omega | (simp <;> omega)))))); (focus (exact (by repeat (first | with_reducible assumption | with_reducible exact Bk.at_ (by first | (simp; done) | omega) | with_reducible refine Bk.alloc ?_ _ | with_reducible refine Bk.drew ?_ | with_reducible refine Bk.drewN ?_ _ | with_reducible refine Bk.step (by with_reducible assumption) ?_ (by first | omega | (simp <;> omega)))))); (focus (have := HB2.out.size; first | (simp; done) | (simp; omega) | omega)); intro v1 wn ho1 hg1; have HO1 := Lib.hid ho1; have HN1 : Hid (Below w1.heap.size w1 wn) := Lib.hid (Below.grown_ (by have hb0 := HB2.out; exact (by repeat (first | with_reducible exact Below.refl _ _ | with_reducible assumption | with_reducible refine Below.drew ?_ | with_reducible refine Below.drewN ?_ _ | with_reducible refine Below.alloc2 ?_ _ | with_reducible refine Below.alloc ?_ (by first | omega | (simp <;> omega)) _ | with_reducible refine Below.setCell ?_ (by first | omega | (simp <;> omega)) _ | with_reducible refine Below.step2 (by with_reducible assumption) ?_ | with_reducible refine Below.step (by with_reducible assumption) ?_ (by first | omega | (simp <;> omega))))) hg1 (by have := HB2.out.size; first | (simp; done) | (simp; omega) | omega) (fun q hq => (HO2.out.lt q hq).1)); clear ho1 hg1))
                 go_meet
                 case rel => exact ⟨os ++ [4], Lib.hid (by rw [HOS.out]; rw [e]; rfl), HO1.out, HN1.out⟩)
              · have e : B4 = false := by rw [← HB4.out]; simp [k4]
                (go_wp2
                 go_meet
                 case rel => exact ⟨os, Lib.hid (by rw [HOS.out]; rw [e]; simp [one]), HO2.out, HB2.out⟩)
            case rest =>
              (try clear HOS HO HB)
              obtain ⟨os, HOS, hor, hbr⟩ := hcut
              have HO := Lib.hid hor
              have HB := Lib.hid hbr
              have ow := hbr.size
              have hol : os.length ≤ 5 := by rw [HOS.out]; cases B0 <;> (try cases B1) <;> (try cases fb) <;> (try cases B3) <;> (try cases B4) <;> simp [one]
              clear hor hbr
              go_wp2
              go_ret
              refine ⟨HBW.out.trans (HB.out.mono HBW.out.size), _, rfl, ?_⟩
              have e : os = rs B0 B1 (!fb) B3 B4 := HOS.out
              rw [← e]
              exact own_base HO.out HBW.out.size)
  · obtain ⟨j, rfl⟩ : ∃ j : Nat, q1 = (j : Int) := ⟨q1.toNat, by omega⟩
    have hj : j < N := by omega
    have HQ : Hid (decide (q0 < 0) = false ∧ decide ((j : Int) < q0) = false) := Lib.hid ⟨decide_eq_false k1, decide_eq_false k5⟩
    (
    go_enter Try.func24, Try.ntmps24
    go_upto_if 29 with (first
      | (go_at_call 35; refine UP.out.mono ?_; rintro e w1 ⟨hbw, v, rfl, hown⟩; obtain ⟨A1, c1, rfl, hr⟩ := Rws.of_own hown HNL.out; have HF : Hid (∀ W, Below w1.heap.size w1 W → Rws Ev.cs 6 W W.heap.size A1 N c1 F) := Lib.hid (fun W hW => hr.below hW (Nat.le_refl _) hW.size); have HB := Lib.hid (Below.refl w1.heap.size w1); have HBW := Lib.hid hbw; have hcap := hr.cap; have hmax := hr.max; clear hown hr hbw)
      | (go_at_call 52; with_reducible refine (L0.out _ _ _ (HF.out _ HB.out)).mono ?_; rintro e w' ⟨rfl, rfl⟩)
      | (go_at_call 52; with_reducible refine (L6.out _ _ _ (HF.out _ HB.out)).mono ?_; rintro e w' ⟨rfl, rfl⟩)
      | (go_at_call 52; with_reducible refine (L1.out _ _ _ (HF.out _ HB.out)).mono ?_; rintro e w' ⟨rfl, rfl⟩))
    have ow1 := HB.out.size
    go_cut [10] (fun v wx => ∃ os : List Int, Hid (os = one B0 0) ∧ wx.ownsRow w1.heap.size 3 1 v os.length (i64s os) ∧ Below w1.heap.size w1 wx)
    case first =>
      obtain ⟨os, hos⟩ : ∃ os : List Int, os = [] := ⟨_, rfl⟩
      have HOS := Lib.hid hos
      have HO : Hid (w1.ownsRow w1.heap.size 3 1 (.slice none 0 0) os.length (i64s os)) := Lib.hid (by rw [hos]; exact World.ownsRow_nil _ _ _ _)
      have hol : os.length ≤ 5 := by rw [hos]; simp
      clear hos
      by_cases k2 : q0 < q6
      · have e : B0 = true := by rw [HB0.out]; simp [k2]
        (go_wp2_with (at_builtin; go_loud (refine app_i (W := os) (base := w1.heap.size) ?_ rfl _ _ rfl rfl 0 _ rfl ?_ (by first | (simp; done) | omega) ?_ ?_; (exact own_step HO.out (by exact (by repeat (first | with_reducible exact Below.refl _ _ | with_reducible assumption | with_reducible refine Below.drew ?_ | with_reducible refine Below.drewN ?_ _ | with_reducible refine Below.alloc2 ?_ _ | with_reducible refine Below.alloc ?_ (by first | omega | (simp <;> omega)) _ | with_reducible refine Below.setCell ?_ (by first | omega | (simp <;> omega)) _ | with_reducible refine Below.step2 (by with_reducible assumption) ?_ | with_reducible refine Below.step (by with_reducible assumption) ?_ (by first | omega | (simp <;> omega)))))); (focus (exact (by repeat (first | with_reducible assumption | with_reducible exact Bk.at_ (by first | (simp; done) | omega) | with_reducible refine Bk.alloc ?_ _ | with_reducible refine Bk.drew ?_ | with_reducible refine Bk.drewN ?_ _ | with_reducible refine Bk.step (by with_reducible assumption) ?_ (by first | omega | (simp <;> omega)))))); (focus (have := HB.out.size; first | (simp; done) | (simp; omega) | omega)); intro v1 wn ho1 hg1; have HO1 := Lib.hid ho1; have HN1 : Hid (Below w1.heap.size w1 wn) := Lib.hid (Below.grown_ (by have hb0 := HB.out; exact (by repeat (first | with_reducible exact Below.refl _ _ | with_reducible assumption | with_reducible refine Below.drew ?_ | with_reducible refine Below.drewN ?_ _ | with_reducible refine Below.alloc2 ?_ _ | with_reducible refine Below.alloc ?_ (by first | omega | (simp <;> omega)) _ | with_reducible refine Below.setCell ?_ (by first | omega | (simp <;> omega)) _ | with_reducible refine Below.step2 (by with_reducible assumption) ?_ | with_reducible refine Below.step (by with_reducible assumption) ?_ (by first | omega | (simp <;> omega))))) hg1 (by have := HB.out.size; first | (simp; done) | (simp; omega) | omega) (fun q hq => (HO.out.lt q hq).1)); clear ho1 hg1))
         go_meet
         case rel => exact ⟨os ++ [0], Lib.hid (by rw [HOS.out]; rw [e]; rfl), HO1.out, HN1.out⟩)
      · have e : B0 = false := by rw [HB0.out]; simp [k1, k2]
        (go_wp2
         go_meet
         case rel => exact ⟨os, Lib.hid (by rw [HOS.out]; rw [e]; simp [one]), HO.out, HB.out⟩)
    case rest =>
      clear HB
      (try clear HOS HO HB)
      obtain ⟨os, HOS, hor, hbr⟩ := hcut
      have HO := Lib.hid hor
      have HB := Lib.hid hbr
      have ow := hbr.size
      have hol : os.length ≤ 5 := by rw [HOS.out]; cases B0 <;> (try cases B1) <;> (try cases fb) <;> (try cases B3) <;> (try cases B4) <;> simp [one]
      clear hor hbr
      obtain ⟨b, o, ⟨xd, xk, xp, xn, xs, xg⟩, rfl, hbb, hx, d0, d1, d2, d3, d4, d5⟩ := (HF.out _ HB.out).ev hj
      dsimp only at d0 d1 d2 d3 d4 d5
      have HPS : Hid (B1 = !xs) := Lib.hid (by rw [HB1.out, HQ.out.1, HQ.out.2]; simp [psAt, hx])
      clear hx
      obtain ⟨hk1, hk5⟩ := HQ.out
      go_upto_if 47 with (fail)
      go_cut [10] (fun v wx => ∃ os : List Int, Hid (os = one B0 0 ++ one B1 1) ∧ wx.ownsRow w1.heap.size 3 1 v os.length (i64s os) ∧ Below w1.heap.size w1 wx)
      case first =>
        cases xs
        · have e : B1 = true := HPS.out
          (go_wp2_with (at_builtin; go_loud (refine app_i (W := os) (base := w1.heap.size) ?_ rfl _ _ rfl rfl 1 _ rfl ?_ (by first | (simp; done) | omega) ?_ ?_; (exact own_step HO.out (by exact (by repeat (first | with_reducible exact Below.refl _ _ | with_reducible assumption | with_reducible refine Below.drew ?_ | with_reducible refine Below.drewN ?_ _ | with_reducible refine Below.alloc2 ?_ _ | with_reducible refine Below.alloc ?_ (by first | omega | (simp <;> omega)) _ | with_reducible refine Below.setCell ?_ (by first | omega | (simp <;> omega)) _ | with_reducible refine Below.step2 (by with_reducible assumption) ?_ | with_reducible refine Below.step (by with_reducible assumption) ?_ (by first | omega | (simp <;> omega)))))); (focus (exact (by repeat (first | with_reducible assumption | with_reducible exact Bk.at_ (by first | (simp; done) | omega) | with_reducible refine Bk.alloc ?_ _ | with_reducible refine Bk.drew ?_ | with_reducible refine Bk.drewN ?_ _ | with_reducible refine Bk.step (by with_reducible assumption) ?_ (by first | omega | (simp <;> omega)))))); (focus (have := HB.out.size; first | (simp; done) | (simp; omega) | omega)); intro v1 wn ho1 hg1; have HO1 := Lib.hid ho1; have HN1 : Hid (Below w1.heap.size w1 wn) := Lib.hid (Below.grown_ (by have hb0 := HB.out; exact (by repeat (first | with_reducible exact Below.refl _ _ | with_reducible assumption | with_reducible refine Below.drew ?_ | with_reducible refine Below.drewN ?_ _ | with_reducible refine Below.alloc2 ?_ _ | with_reducible refine Below.alloc ?_ (by first | omega | (simp <;> omega)) _ | with_reducible refine Below.setCell ?_ (by first | omega | (simp <;> omega)) _ | with_reducible refine Below.step2 (by with_reducible assumption) ?_ | with_reducible refine Below.step (by with_reducible assumption) ?_ (by first | omega | (simp <;> omega))))) hg1 (by have := HB.out.size; first | (simp; done) | (simp; omega) | omega) (fun q hq => (HO.out.lt q hq).1)); clear ho1 hg1))
           go_meet
           case rel => exact ⟨os ++ [1], Lib.hid (by rw [HOS.out]; rw [e]; rfl), HO1.out, HN1.out⟩)
        · have e : B1 = false := HPS.out
          (go_wp2
           go_meet
           case rel => exact ⟨os, Lib.hid (by rw [HOS.out]; rw [e]; simp [one]), HO.out, HB.out⟩)
      case rest =>
        (try clear HOS HO HB)
        obtain ⟨os, HOS, hor, hbr⟩ := hcut
        have HO := Lib.hid hor
        have HB := Lib.hid hbr
        have ow := hbr.size
        have hol : os.length ≤ 5 := by rw [HOS.out]; cases B0 <;> (try cases B1) <;> (try cases fb) <;> (try cases B3) <;> (try cases B4) <;> simp [one]
        clear hor hbr
        go_upto_if 55 with (go_at_call 53; with_reducible refine (FR.out _ _ _ (HF.out _ HB.out)).mono ?_; rintro e w' ⟨rfl, rfl⟩)
        go_cut [10] (fun v wx => ∃ os : List Int, Hid (os = one B0 0 ++ one B1 1 ++ one (!fb) 2) ∧ wx.ownsRow w1.heap.size 3 1 v os.length (i64s os) ∧ Below w1.heap.size w1 wx)
        case first =>
          cases fb
          · (go_wp2_with (at_builtin; go_loud (refine app_i (W := os) (base := w1.heap.size) ?_ rfl _ _ rfl rfl 2 _ rfl ?_ (by first | (simp; done) | omega) ?_ ?_; (exact own_step HO.out (by exact (by repeat (first | with_reducible exact Below.refl _ _ | with_reducible assumption | with_reducible refine Below.drew ?_ | with_reducible refine Below.drewN ?_ _ | with_reducible refine Below.alloc2 ?_ _ | with_reducible refine Below.alloc ?_ (by first | omega | (simp <;> omega)) _ | with_reducible refine Below.setCell ?_ (by first | omega | (simp <;> omega)) _ | with_reducible refine Below.step2 (by with_reducible assumption) ?_ | with_reducible refine Below.step (by with_reducible assumption) ?_ (by first | omega | (simp <;> omega)))))); (focus (exact (by repeat (first | with_reducible assumption | with_reducible exact Bk.at_ (by first | (simp; done) | omega) | with_reducible refine Bk.alloc ?_ _ | with_reducible refine Bk.drew ?_ | with_reducible refine Bk.drewN ?_ _ | with_reducible refine Bk.step (by with_reducible assumption) ?_ (by first | omega | (simp <;> omega)))))); (focus (have := HB.out.size; first | (simp; done) | (simp; omega) | omega)); intro v1 wn ho1 hg1; have HO1 := Lib.hid ho1; have HN1 : Hid (Below w1.heap.size w1 wn) := Lib.hid (Below.grown_ (by have hb0 := HB.out; exact (by repeat (first | with_reducible exact Below.refl _ _ | with_reducible assumption | with_reducible refine Below.drew ?_ | with_reducible refine Below.drewN ?_ _ | with_reducible refine Below.alloc2 ?_ _ | with_reducible refine Below.alloc ?_ (by first | omega | (simp <;> omega)) _ | with_reducible refine Below.setCell ?_ (by first | omega | (simp <;> omega)) _ | with_reducible refine Below.step2 (by with_reducible assumption) ?_ | with_reducible refine Below.step (by with_reducible assumption) ?_ (by first | omega | (simp <;> omega))))) hg1 (by have := HB.out.size; first | (simp; done) | (simp; omega) | omega) (fun q hq => (HO.out.lt q hq).1)); clear ho1 hg1))
             go_meet
             case rel => exact ⟨os ++ [2], Lib.hid (by rw [HOS.out]; rfl), HO1.out, HN1.out⟩)
          · (go_wp2
             go_meet
             case rel => exact ⟨os, Lib.hid (by rw [HOS.out]; simp [one]), HO.out, HB.out⟩)
        case rest =>
          (try clear HOS HO HB)
          obtain ⟨os, HOS, hor, hbr⟩ := hcut
          have HO := Lib.hid hor
          have HB := Lib.hid hbr
          have ow := hbr.size
          have hol : os.length ≤ 5 := by rw [HOS.out]; cases B0 <;> (try cases B1) <;> (try cases fb) <;> (try cases B3) <;> (try cases B4) <;> simp [one]
          clear hor hbr
          go_upto_if 63 with (go_at_call 41; with_reducible refine (O3.out _ _ _ (HF.out _ HB.out)).mono ?_; rintro e w2 ⟨hb2, A', c', rfl⟩; have HO2 := Lib.hid (own_step HO.out hb2); have HB2 : Hid (Below w1.heap.size w1 w2) := Lib.hid (HB.out.trans (hb2.mono HB.out.size)); have ow2 := HB2.out.size; clear hb2)
          go_cut [10] (fun v wx => ∃ os : List Int, Hid (os = one B0 0 ++ one B1 1 ++ one (!fb) 2 ++ one B3 3) ∧ wx.ownsRow w1.heap.size 3 1 v os.length (i64s os) ∧ Below w1.heap.size w1 wx)
          case first =>
            by_cases k3 : 0 < M3
            · have e : B3 = true := by rw [← HB3.out]; simp [k3]
              (go_wp2_with (at_builtin; go_loud (refine app_i (W := os) (base := w1.heap.size) ?_ rfl _ _ rfl rfl 3 _ rfl ?_ (by first | (simp; done) | omega) ?_ ?_; (exact own_step HO2.out (by exact (by repeat (first | with_reducible exact Below.refl _ _ | with_reducible assumption | with_reducible refine Below.drew ?_ | with_reducible refine Below.drewN ?_ _ | with_reducible refine Below.alloc2 ?_ _ | with_reducible refine Below.alloc ?_ (by first | omega | (simp <;> omega)) _ | with_reducible refine Below.setCell ?_ (by first | omega | (simp <;> omega)) _ | with_reducible refine Below.step2 (by with_reducible assumption) ?_ | with_reducible refine Below.step (by with_reducible assumption) ?_ (by first | omega | (simp <;> omega)))))); (focus (exact (by repeat (first | with_reducible assumption | with_reducible exact Bk.at_ (by first | (simp; done) | omega) | with_reducible refine Bk.alloc ?_ _ | with_reducible refine Bk.drew ?_ | with_reducible refine Bk.drewN ?_ _ | with_reducible refine Bk.step (by with_reducible assumption) ?_ (by first | omega | (simp <;> omega)))))); (focus (have := HB2.out.size; first | (simp; done) | (simp; omega) | omega)); intro v1 wn ho1 hg1; have HO1 := Lib.hid ho1; have HN1 : Hid (Below w1.heap.size w1 wn) := Lib.hid (Below.grown_ (by have hb0 := HB2.out; exact (by repeat (first | with_reducible exact Below.refl _ _ | with_reducible assumption | with_reducible refine Below.drew ?_ | with_reducible refine Below.drewN ?_ _ | with_reducible refine Below.alloc2 ?_ _ | with_reducible refine Below.alloc ?_ (by first | omega | (simp <;> omega)) _ | with_reducible refine Below.setCell ?_ (by first | omega | (simp <;> omega)) _ | with_reducible refine Below.step2 (by with_reducible assumption) ?_ | with_reducible refine Below.step (by with_reducible assumption) ?_ (by first | omega | (simp <;> omega))))) hg1 (by have := HB2.out.size; first | (simp; done) | (simp; omega) | omega) (fun q hq => (HO2.out.lt q hq).1)); clear ho1 hg1))
               go_meet
               case rel => exact ⟨os ++ [3], Lib.hid (by rw [HOS.out]; rw [e]; rfl), HO1.out, HN1.out⟩)
            · have e : B3 = false := by rw [← HB3.out]; simp [k3]
              (go_wp2
               go_meet
               case rel => exact ⟨os, Lib.hid (by rw [HOS.out]; rw [e]; simp [one]), HO2.out, HB2.out⟩)
          case rest =>
            (try clear HOS HO HB)
            obtain ⟨os, HOS, hor, hbr⟩ := hcut
            have HO := Lib.hid hor
            have HB := Lib.hid hbr
            have ow := hbr.size
            have hol : os.length ≤ 5 := by rw [HOS.out]; cases B0 <;> (try cases B1) <;> (try cases fb) <;> (try cases B3) <;> (try cases B4) <;> simp [one]
            clear hor hbr
            go_upto_if 71 with (go_at_call 41; with_reducible refine (O4.out _ _ _ (HF.out _ HB.out)).mono ?_; rintro e w2 ⟨hb2, A', c', rfl⟩; have HO2 := Lib.hid (own_step HO.out hb2); have HB2 : Hid (Below w1.heap.size w1 w2) := Lib.hid (HB.out.trans (hb2.mono HB.out.size)); have ow2 := HB2.out.size; clear hb2)
            go_cut [10] (fun v wx => ∃ os : List Int, Hid (os = one B0 0 ++ one B1 1 ++ one (!fb) 2 ++ one B3 3 ++ one B4 4) ∧ wx.ownsRow w1.heap.size 3 1 v os.length (i64s os) ∧ Below w1.heap.size w1 wx)
            case first =>
              by_cases k4 : 0 < M4
              · have e : B4 = true := by rw [← HB4.out]; simp [k4]
                (go_wp2_with (at_builtin; go_loud (refine app_i (W := os) (base := w1.heap.size) ?_ rfl _ _ rfl rfl 4 _ rfl ?_ (by first | (simp; done) | omega) ?_ ?_; (exact own_step HO2.out (by exact (by repeat (first | with_reducible exact Below.refl _ _ | with_reducible assumption | with_reducible refine Below.drew ?_ | with_reducible refine Below.drewN ?_ _ | with_reducible refine Below.alloc2 ?_ _ | with_reducible refine Below.alloc ?_ (by first | omega | (simp <;> omega)) _ | with_reducible refine Below.setCell ?_ (by first | omega | (simp <;> omega)) _ | with_reducible refine Below.step2 (by with_reducible assumption) ?_ | with_reducible refine Below.step (by with_reducible assumption) ?_ (by first | omega | (simp <;> omega)))))); (focus (exact (by repeat (first | with_reducible assumption | with_reducible exact Bk.at_ (by first | (simp; done) | omega) | with_reducible refine Bk.alloc ?_ _ | with_reducible refine Bk.drew ?_ | with_reducible refine Bk.drewN ?_ _ | with_reducible refine Bk.step (by with_reducible assumption) ?_ (by first | omega | (simp <;> omega)))))); (focus (have := HB2.out.size; first | (simp; done) | (simp; omega) | omega)); intro v1 wn ho1 hg1; have HO1 := Lib.hid ho1; have HN1 : Hid (Below w1.heap.size w1 wn) := Lib.hid (Below.grown_ (by have hb0 := HB2.out; exact (by repeat (first | with_reducible exact Below.refl _ _ | with_reducible assumption | with_reducible refine Below.drew ?_ | with_reducible refine Below.drewN ?_ _ | with_reducible refine Below.alloc2 ?_ _ | with_reducible refine Below.alloc ?_ (by first | omega | (simp <;> omega)) _ | with_reducible refine Below.setCell ?_ (by first | omega | (simp <;> omega)) _ | with_reducible refine Below.step2 (by with_reducible assumption) ?_ | with_reducible refine Below.step (by with_reducible assumption) ?_ (by first | omega | (simp <;> omega))))) hg1 (by have := HB2.out.size; first | (simp; done) | (simp; omega) | omega) (fun q hq => (HO2.out.lt q hq).1)); clear ho1 hg1))
                 go_meet
                 case rel => exact ⟨os ++ [4], Lib.hid (by rw [HOS.out]; rw [e]; rfl), HO1.out, HN1.out⟩)
              · have e : B4 = false := by rw [← HB4.out]; simp [k4]
                (go_wp2
                 go_meet
                 case rel => exact ⟨os, Lib.hid (by rw [HOS.out]; rw [e]; simp [one]), HO2.out, HB2.out⟩)
            case rest =>
              (try clear HOS HO HB)
              obtain ⟨os, HOS, hor, hbr⟩ := hcut
              have HO := Lib.hid hor
              have HB := Lib.hid hbr
              have ow := hbr.size
              have hol : os.length ≤ 5 := by rw [HOS.out]; cases B0 <;> (try cases B1) <;> (try cases fb) <;> (try cases B3) <;> (try cases B4) <;> simp [one]
              clear hor hbr
              go_wp2
              go_ret
              refine ⟨HBW.out.trans (HB.out.mono HBW.out.size), _, rfl, ?_⟩
              have e : os = rs B0 B1 (!fb) B3 B4 := HOS.out
              rw [← e]
              exact own_base HO.out HBW.out.size)

end Go.Proofs.Ytgjjjnofdjhikaa

/- Chapter 9, walks: Tag of the reference. -/
namespace Go.Proofs.Ytgjjjnofdjhikaa
open Go.RowKit

def tagR (l : List Int) : Int := if l = [] then 2 else if l = [4] then 1 else 0
set_option maxHeartbeats 2000000 in
theorem tagR_any (A : Option Addr) (n c B : Nat) (l : List Int) (w : World) (h : Nums w B A n c l) :
    Calls Try.prog 26 #[.slice A n c] w fun e w' => w = w' ∧ e = .returned (.int .i64 (tagR l)) := by
  have hcap := h.cap
  have hmax := h.max
  have hlen := h.len
  match l, hlen, h with
  | [], hlen, h =>
    obtain rfl : n = 0 := by simpa using hlen.symm
    clear h
    go_enter Try.func26, Try.ntmps26
    go_wp2
    go_ret
    exact ⟨rfl, ret_int rfl⟩
  | [z], hlen, h =>
    obtain rfl : n = 1 := by simpa using hlen.symm
    obtain ⟨b, o, x, rfl, hb, hx, hc⟩ := h.at_ (show 0 < 1 by omega)
    obtain rfl : z = x := by simpa using hx
    clear hx
    rw [Nat.add_zero] at hc
    by_cases h4 : z = 4
    · subst h4
      go_enter Try.func26, Try.ntmps26
      go_wp2
      go_ret
      exact ⟨rfl, ret_int rfl⟩
    · have HT : Hid (tagR [z] = 0) := Lib.hid (by simp [tagR, h4])
      have h4b : (z == 4) = false := by simpa using h4
      go_enter Try.func26, Try.ntmps26
      go_wp2
      go_ret
      exact ⟨rfl, ret_int HT.out.symm⟩
  | x :: y :: r, hlen, h =>
    have h2 : 2 ≤ n := by simp at hlen; omega
    have h0 : ¬ n = 0 := by omega
    have h1 : ¬ n = 1 := by omega
    have e0 : ((n : Int) == 0) = false := by simp; omega
    have e1 : ((n : Int) == 1) = false := by simp; omega
    have HT : Hid (tagR (x :: y :: r) = 0) := Lib.hid (by simp [tagR])
    clear h hlen
    go_enter Try.func26, Try.ntmps26
    go_wp2
    go_ret
    exact ⟨rfl, ret_int HT.out.symm⟩

end Go.Proofs.Ytgjjjnofdjhikaa

/- Chapter 9, walks: due of the reference. -/
namespace Go.Proofs.Ytgjjjnofdjhikaa
open Go.RowKit

def no2 (z : Int) : Bool := decide (z ≠ 2)
def dueR (l : List Int) : Bool := decide ((l.filter no2).length < l.length) && decide (0 < tagR (l.filter no2))
theorem no2_step {l : List Int} {k : Nat} {z : Int} {F : List Int} (hx : l[k]? = some z) (h : (l.take k).filter no2 = F) : (l.take (k + 1)).filter no2 = F ++ if z = 2 then [] else [z] := by
  rw [take_step hx, List.filter_append, h]
  by_cases hd : z = 2 <;> simp [no2, hd]
theorem Nums.own {base n c : Nat} {A : Option Addr} {l : List Int} {w : World} (h : w.ownsRow base 3 1 (.slice A n c) l.length (i64s l)) : Nums w w.heap.size A n c l := by
  obtain ⟨A', c', e, hs, -⟩ := Sl.of_own h
  injection e with e1 e2 e3
  subst e1; subst e2; subst e3
  exact ⟨hs⟩
theorem own_sl {base : Nat} {v : Value} {l : List Int} {w : World} (h : w.ownsRow base 3 1 v l.length (i64s l)) : ∃ A c, v = .slice A l.length c := by
  obtain ⟨A', c', e, hs, -⟩ := Sl.of_own h
  exact ⟨A', c', e⟩
set_option maxRecDepth 100000 in
set_option maxHeartbeats 4000000 in
theorem dueR_any (A : Option Addr) (n c : Nat) (l : List Int) (w : World) (h : Nums w w.heap.size A n c l) (hn : n ≤ 1000) :
    Calls Try.prog 60 #[.slice A n c] w fun e w' => Below w.heap.size w w' ∧ e = .returned (.bool (dueR l)) := by
  have hcap := h.cap
  have hmax := h.max
  have HLEN := Lib.hid h.len
  have H : Hid (∀ w', Below w.heap.size w w' → Nums w' w.heap.size A n c l) := fun w' hb => h.below hb (Nat.le_refl _) (Nat.le_refl _)
  clear h
  go_enter Try.func60, Try.ntmps60
  go_wp2
  go_loopw [3, 4] (fun v i wr => ∃ k : Nat, k ≤ n ∧ i = .int .i64 k ∧ (∃ F : List Int, Hid ((l.take k).filter no2 = F) ∧ wr.ownsRow w.heap.size 3 1 v F.length (i64s F)) ∧ Below w.heap.size w wr) (fun _ i _ => n - (intOf i).toNat)
  case atStart => exact ⟨0, Nat.zero_le _, rfl, ⟨[], Lib.hid rfl, World.ownsRow_nil _ _ _ _⟩, (by repeat (first | with_reducible exact Below.refl _ _ | with_reducible assumption | with_reducible refine Below.drew ?_ | with_reducible refine Below.drewN ?_ _ | with_reducible refine Below.alloc2 ?_ _ | with_reducible refine Below.alloc ?_ (by first | omega | (simp <;> omega)) _ | with_reducible refine Below.setCell ?_ (by first | omega | (simp <;> omega)) _ | with_reducible refine Below.step2 (by with_reducible assumption) ?_ | with_reducible refine Below.step (by with_reducible assumption) ?_ (by first | omega | (simp <;> omega))))⟩
  case round =>
    obtain ⟨k, hk, rfl, ⟨F, HF, hown⟩, hb⟩ := hrel
    have HB := Lib.hid hb
    have HOWN := Lib.hid hown
    have ow := hb.size
    have hfl : F.length ≤ 1000 := by
      have := List.length_filter_le no2 (l.take k)
      rw [HF.out, List.length_take] at this
      omega
    clear hown
    by_cases hlt : k < n
    · obtain ⟨b, o, z, rfl, hbb, hx, hc⟩ := (H.out _ hb).at_ hlt
      have ob : b < wr.heap.size := by omega
      have HT := Lib.hid (no2_step hx HF.out)
      clear hx hb
      by_cases hd : z = 2
      · have HN : Hid ((l.take (k + 1)).filter no2 = F) := Lib.hid (HT.out.trans (by rw [if_pos hd, List.append_nil]))
        subst hd
        go_wp2
        go_roundw
        case rel => exact ⟨k + 1, by omega, by go_num, ⟨F, HN, HOWN.out⟩, HB.out⟩
        case measure => simp [intOf]; omega
      · have HN : Hid ((l.take (k + 1)).filter no2 = F ++ [z]) := Lib.hid (HT.out.trans (by rw [if_neg hd]))
        have hdb : (z != 2) = true := by simpa using hd
        go_wp2_with (at_builtin; go_loud (refine app_i (W := F) (base := w.heap.size) ?_ rfl _ _ rfl rfl z _ rfl ?_ (by omega) ?_ ?_; (exact own_step HOWN.out (by exact (by repeat (first | with_reducible exact Below.refl _ _ | with_reducible assumption | with_reducible refine Below.drew ?_ | with_reducible refine Below.drewN ?_ _ | with_reducible refine Below.alloc2 ?_ _ | with_reducible refine Below.alloc ?_ (by first | omega | (simp <;> omega)) _ | with_reducible refine Below.setCell ?_ (by first | omega | (simp <;> omega)) _ | with_reducible refine Below.step2 (by with_reducible assumption) ?_ | with_reducible refine Below.step (by with_reducible assumption) ?_ (by first | omega | (simp <;> omega)))))); (focus (exact (by repeat (first | with_reducible assumption | with_reducible exact Bk.at_ (by first | (simp; done) | omega) | with_reducible refine Bk.alloc ?_ _ | with_reducible refine Bk.drew ?_ | with_reducible refine Bk.drewN ?_ _ | with_reducible refine Bk.step (by with_reducible assumption) ?_ (by first | omega | (simp <;> omega)))))); (focus (first | (simp; done) | (simp; omega) | omega)); intro v2 w2 ho2 hg2; have HO2 := Lib.hid ho2; have HB2 : Hid (Below w.heap.size w w2) := Lib.hid (Below.grown_ (by have hb0 := HB.out; exact (by repeat (first | with_reducible exact Below.refl _ _ | with_reducible assumption | with_reducible refine Below.drew ?_ | with_reducible refine Below.drewN ?_ _ | with_reducible refine Below.alloc2 ?_ _ | with_reducible refine Below.alloc ?_ (by first | omega | (simp <;> omega)) _ | with_reducible refine Below.setCell ?_ (by first | omega | (simp <;> omega)) _ | with_reducible refine Below.step2 (by with_reducible assumption) ?_ | with_reducible refine Below.step (by with_reducible assumption) ?_ (by first | omega | (simp <;> omega))))) hg2 (by first | (simp; done) | (simp; omega) | omega) (fun q hq => (HOWN.out.lt q hq).1)); clear ho2 hg2))
        go_roundw
        case rel => exact ⟨k + 1, by omega, by go_num, ⟨_, HN, HO2.out⟩, HB2.out⟩
        case measure => simp [intOf]; omega
    · obtain rfl : k = n := by omega
      have hFF : l.filter no2 = F := by have := HF.out; rwa [List.take_of_length_le (by rw [HLEN.out]; omega)] at this
      obtain ⟨A2, c2, rfl⟩ := own_sl HOWN.out
      have hnum := Nums.own HOWN.out
      have TG := Lib.hid (tagR_any A2 F.length c2 _ F _ hnum)
      have hD : dueR l = (decide (F.length < k) && decide (0 < tagR F)) := by unfold dueR; rw [hFF, HLEN.out]
      have HD := Lib.hid hD
      generalize tagR F = T at TG HD
      generalize F.length = m at *
      clear hb hFF hnum hD
      by_cases h1 : m < k
      · have e1 : decide ((m : Int) < (k : Int)) = true := decide_eq_true (by omega)
        have HR : Hid (dueR l = decide (0 < T)) := Lib.hid (by rw [HD.out]; simp [h1])
        go_wp2_with (go_at_call 26; refine TG.out.mono ?_; rintro e w' ⟨rfl, rfl⟩)
        go_ret
        exact ⟨HB.out, ret_bool (by rw [HR.out])⟩
      · have e1 : decide ((m : Int) < (k : Int)) = false := decide_eq_false (by omega)
        have HR : Hid (dueR l = false) := Lib.hid (by rw [HD.out]; simp [h1])
        go_wp2
        go_ret
        exact ⟨HB.out, ret_bool (by rw [HR.out])⟩

end Go.Proofs.Ytgjjjnofdjhikaa

/- Chapter 9, walks: Due and Released of the reference. -/
namespace Go.Proofs.Ytgjjjnofdjhikaa
open Go.RowKit

theorem rs_len (a b c d e : Bool) : (rs a b c d e).length ≤ 5 := by cases a <;> cases b <;> cases c <;> cases d <;> cases e <;> simp [rs, one]
def dueL (l : List Ev) (day : Int) : List Tx := (platsR l).filter fun t => dueR (reasonsR (l.filter (upF day)) ⟨t.toArray⟩ day)
def relL (l : List Ev) (day : Int) : List Tx := (platsR l).filter fun t => tagR (reasonsR (l.filter (upF day)) ⟨t.toArray⟩ day) == 2
set_option maxRecDepth 100000 in
set_option maxHeartbeats 4000000 in
theorem refDue_any (A : Option Addr) (n c : Nat) (l : List Ev) (day : Int) (w : World) (h : Rws Ev.cs 6 w w.heap.size A n c l) (hn : n ≤ 400) (hd : ∀ x ∈ l, 0 ≤ x.d ∧ x.d ≤ 1000000000) (h0 : 0 ≤ day) (h1 : day ≤ 1000000000) :
    Calls Try.prog 33 #[.slice A n c, .int .i64 day] w fun e w' => Below w.heap.size w w' ∧ ∃ v, e = .returned v ∧ w'.ownsRow w.heap.size 9 1 v (dueL l day).length (Ss (dueL l day)) := by
  have hcap := h.cap
  have hmax := h.max
  have PL : Hid (Calls Try.prog 17 #[.slice A n c] w fun e w' => Below w.heap.size w w' ∧ ∃ v, e = .returned v ∧ w'.ownsRow w.heap.size 9 1 v (platsR l).length (Ss (platsR l))) := Lib.hid (refPlatforms_any A n c l w h (by omega))
  have hRL : (platsR l).length ≤ 400 := by
    have := platsR_len l n
    rw [List.take_of_length_le (by rw [h.len]; omega)] at this
    omega
  obtain ⟨K, hK⟩ : ∃ K : Tx → List Int, K = fun t => reasonsR (l.filter (upF day)) ⟨t.toArray⟩ day := ⟨_, rfl⟩
  have RS : Hid (∀ t W, Below w.heap.size w W → Calls Try.prog 24 #[.slice A n c, .string ⟨t.toArray⟩, .int .i64 day] W fun e w' => Below W.heap.size W w' ∧ ∃ v, e = .returned v ∧ w'.ownsRow W.heap.size 3 1 v (K t).length (i64s (K t))) := Lib.hid fun t W hW => by
    rw [hK]
    exact reasonsR_any A n c l ⟨t.toArray⟩ day W (h.below hW (Nat.le_refl _) hW.size) hn hd h0 h1
  have hKl : ∀ t, (K t).length ≤ 5 := fun t => by rw [hK]; exact rs_len _ _ _ _ _
  have HKL := Lib.hid hKl
  obtain ⟨pr, hpr⟩ : ∃ pr : Tx → Bool, pr = fun t => dueR (K t) := ⟨_, rfl⟩
  have hG : dueL l day = (platsR l).filter pr := by rw [hpr, hK]; rfl
  rw [hG]
  have HPR : Hid (∀ t, dueR (K t) = pr t) := Lib.hid fun t => by rw [hpr]
  generalize platsR l = P at PL hRL ⊢
  clear h hK hKl hpr hG hd h0 h1
  obtain ⟨N, hN⟩ : ∃ N, P.length = N := ⟨_, rfl⟩
  rw [hN] at PL hRL
  have HNL := Lib.hid hN
  clear hN
  go_enter Try.func33, Try.ntmps33
  go_wp2_with (go_at_call 17; refine PL.out.mono ?_; rintro e w1 ⟨hbw, v, rfl, hown⟩; obtain ⟨A1, c1, rfl, hr⟩ := tx_own hown HNL.out; have H : Hid (∀ w', Below w1.heap.size w1 w' → Rws tx 1 w' w1.heap.size A1 N c1 P) := Lib.hid (fun w' hb => hr.below hb (Nat.le_refl _) (Nat.le_refl _)); have HBW := Lib.hid hbw; have hcap1 := hr.cap; have hmax1 := hr.max; clear hown hr hbw)
  go_loopw [6, 7] (fun v i wr => ∃ k : Nat, k ≤ N ∧ i = .int .i64 k ∧ (∃ F : List Tx, Hid ((P.take k).filter pr = F) ∧ wr.ownsRow w1.heap.size 9 1 v F.length (Ss F)) ∧ Below w1.heap.size w1 wr) (fun _ i _ => N - (intOf i).toNat)
  case atStart => exact ⟨0, Nat.zero_le _, rfl, ⟨[], Lib.hid rfl, World.ownsRow_nil _ _ _ _⟩, Below.refl _ _⟩
  case round =>
    obtain ⟨k, hk, rfl, ⟨F, HF, hown⟩, hb⟩ := hrel
    have HB := Lib.hid hb
    have HOWN := Lib.hid hown
    have ow := hb.size
    have hfl : F.length ≤ 400 := by
      have := List.length_filter_le pr (P.take k)
      rw [HF.out, List.length_take] at this
      omega
    clear hown
    by_cases hlt : k < N
    · obtain ⟨b, o, t, rfl, hbb, hx, hc⟩ := (H.out _ hb).tx hlt
      have ob : b < wr.heap.size := by omega
      have HT : Hid ((P.take (k + 1)).filter pr = F ++ if pr t = true then [t] else []) := Lib.hid (by
        rw [take_step hx, List.filter_append, HF.out]
        by_cases hd : pr t = true <;> simp [hd])
      have HX := Lib.hid hx
      clear hx hb
      obtain ⟨u, hu⟩ : ∃ u, pr t = u := ⟨_, rfl⟩
      have HU : Hid (dueR (K t) = u) := Lib.hid ((HPR.out t).trans hu)
      rw [hu] at HT
      clear hu
      have hkl := HKL.out t
      have RT := Lib.hid (RS.out t)
      generalize K t = X at RT HU hkl
      have DU : Hid (∀ A c W, Nums W W.heap.size A X.length c X → Calls Try.prog 60 #[.slice A X.length c] W fun e w' => Below W.heap.size W w' ∧ e = .returned (.bool u)) := Lib.hid fun A c W hW => by have := dueR_any A X.length c X W hW (by omega); rwa [HU.out] at this
      cases u
      · go_wp2_with (first
          | (go_at_call 24; refine (RT.out _ (by have hb0 := HBW.out.trans (HB.out.mono HBW.out.size); exact (by repeat (first | with_reducible exact Below.refl _ _ | with_reducible assumption | with_reducible refine Below.drew ?_ | with_reducible refine Below.drewN ?_ _ | with_reducible refine Below.alloc2 ?_ _ | with_reducible refine Below.alloc ?_ (by first | omega | (simp <;> omega)) _ | with_reducible refine Below.setCell ?_ (by first | omega | (simp <;> omega)) _ | with_reducible refine Below.step2 (by with_reducible assumption) ?_ | with_reducible refine Below.step (by with_reducible assumption) ?_ (by first | omega | (simp <;> omega)))))).mono ?_; rintro e w2 ⟨hb2, v2, rfl, hown2⟩; obtain ⟨A2, c2, rfl⟩ := own_sl hown2; have HNU := Lib.hid (Nums.own hown2); have HB2 : Hid (Below w1.heap.size w1 w2) := Lib.hid (by have hb0 := HB.out; refine Below.trans ?_ (hb2.mono ?_); (exact (by repeat (first | with_reducible exact Below.refl _ _ | with_reducible assumption | with_reducible refine Below.drew ?_ | with_reducible refine Below.drewN ?_ _ | with_reducible refine Below.alloc2 ?_ _ | with_reducible refine Below.alloc ?_ (by first | omega | (simp <;> omega)) _ | with_reducible refine Below.setCell ?_ (by first | omega | (simp <;> omega)) _ | with_reducible refine Below.step2 (by with_reducible assumption) ?_ | with_reducible refine Below.step (by with_reducible assumption) ?_ (by first | omega | (simp <;> omega))))); (first | omega | (simp; omega))); have HOA := Lib.hid (own_step HOWN.out hb2); clear hb2 hown2)
          | (go_at_call 60; refine (DU.out _ _ _ HNU.out).mono ?_; rintro e w3 ⟨hb3, rfl⟩; have HB3 : Hid (Below w1.heap.size w1 w3) := Lib.hid (HB2.out.trans (hb3.mono HB2.out.size)); have HO2 := Lib.hid (own_step HOA.out hb3); clear hb3; obtain ⟨b', o', t', e', -, hx', hc'⟩ := (H.out _ HB3.out).tx hlt; obtain ⟨rfl, rfl⟩ : b = b' ∧ o = o' := (by simpa using e'); obtain rfl : t = t' := (by rw [HX.out] at hx'; exact Option.some.inj hx'); have ob3 := HB3.out.size; have ob4 : b < w3.heap.size := (by have := HB2.out.size; omega); clear e' hx'))
        go_roundw
        case rel => exact ⟨k + 1, by omega, by go_num, ⟨F, Lib.hid (HT.out.trans (by simp)), HO2.out⟩, HB3.out⟩
        case measure => simp [intOf]; omega
      · go_wp2_with (first
          | (go_at_call 24; refine (RT.out _ (by have hb0 := HBW.out.trans (HB.out.mono HBW.out.size); exact (by repeat (first | with_reducible exact Below.refl _ _ | with_reducible assumption | with_reducible refine Below.drew ?_ | with_reducible refine Below.drewN ?_ _ | with_reducible refine Below.alloc2 ?_ _ | with_reducible refine Below.alloc ?_ (by first | omega | (simp <;> omega)) _ | with_reducible refine Below.setCell ?_ (by first | omega | (simp <;> omega)) _ | with_reducible refine Below.step2 (by with_reducible assumption) ?_ | with_reducible refine Below.step (by with_reducible assumption) ?_ (by first | omega | (simp <;> omega)))))).mono ?_; rintro e w2 ⟨hb2, v2, rfl, hown2⟩; obtain ⟨A2, c2, rfl⟩ := own_sl hown2; have HNU := Lib.hid (Nums.own hown2); have HB2 : Hid (Below w1.heap.size w1 w2) := Lib.hid (by have hb0 := HB.out; refine Below.trans ?_ (hb2.mono ?_); (exact (by repeat (first | with_reducible exact Below.refl _ _ | with_reducible assumption | with_reducible refine Below.drew ?_ | with_reducible refine Below.drewN ?_ _ | with_reducible refine Below.alloc2 ?_ _ | with_reducible refine Below.alloc ?_ (by first | omega | (simp <;> omega)) _ | with_reducible refine Below.setCell ?_ (by first | omega | (simp <;> omega)) _ | with_reducible refine Below.step2 (by with_reducible assumption) ?_ | with_reducible refine Below.step (by with_reducible assumption) ?_ (by first | omega | (simp <;> omega))))); (first | omega | (simp; omega))); have HOA := Lib.hid (own_step HOWN.out hb2); clear hb2 hown2)
          | (go_at_call 60; refine (DU.out _ _ _ HNU.out).mono ?_; rintro e w3 ⟨hb3, rfl⟩; have HB3 : Hid (Below w1.heap.size w1 w3) := Lib.hid (HB2.out.trans (hb3.mono HB2.out.size)); have HO2 := Lib.hid (own_step HOA.out hb3); clear hb3; obtain ⟨b', o', t', e', -, hx', hc'⟩ := (H.out _ HB3.out).tx hlt; obtain ⟨rfl, rfl⟩ : b = b' ∧ o = o' := (by simpa using e'); obtain rfl : t = t' := (by rw [HX.out] at hx'; exact Option.some.inj hx'); have ob3 := HB3.out.size; have ob4 : b < w3.heap.size := (by have := HB2.out.size; omega); clear e' hx')
          | (at_builtin; go_loud (refine app_s (W := F) (base := w1.heap.size) ?_ rfl _ _ rfl rfl t _ rfl ?_ (by omega) ?_ ?_; (exact own_step HO2.out (by exact (by repeat (first | with_reducible exact Below.refl _ _ | with_reducible assumption | with_reducible refine Below.drew ?_ | with_reducible refine Below.drewN ?_ _ | with_reducible refine Below.alloc2 ?_ _ | with_reducible refine Below.alloc ?_ (by first | omega | (simp <;> omega)) _ | with_reducible refine Below.setCell ?_ (by first | omega | (simp <;> omega)) _ | with_reducible refine Below.step2 (by with_reducible assumption) ?_ | with_reducible refine Below.step (by with_reducible assumption) ?_ (by first | omega | (simp <;> omega)))))); (focus (show Bk _ _ _ #[.string ⟨t.toArray⟩]; exact (by repeat (first | with_reducible assumption | with_reducible exact Bk.at_ (by first | (simp; done) | omega) | with_reducible refine Bk.alloc ?_ _ | with_reducible refine Bk.drew ?_ | with_reducible refine Bk.drewN ?_ _ | with_reducible refine Bk.step (by with_reducible assumption) ?_ (by first | omega | (simp <;> omega)))))); (focus (have := HB3.out.size; first | (simp; done) | (simp; omega) | omega)); intro v4 w4 ho4 hg4; have HO4 := Lib.hid ho4; have HB4 : Hid (Below w1.heap.size w1 w4) := Lib.hid (Below.grown_ (by have hb0 := HB3.out; exact (by repeat (first | with_reducible exact Below.refl _ _ | with_reducible assumption | with_reducible refine Below.drew ?_ | with_reducible refine Below.drewN ?_ _ | with_reducible refine Below.alloc2 ?_ _ | with_reducible refine Below.alloc ?_ (by first | omega | (simp <;> omega)) _ | with_reducible refine Below.setCell ?_ (by first | omega | (simp <;> omega)) _ | with_reducible refine Below.step2 (by with_reducible assumption) ?_ | with_reducible refine Below.step (by with_reducible assumption) ?_ (by first | omega | (simp <;> omega))))) hg4 (by have := HB3.out.size; first | (simp; done) | (simp; omega) | omega) (fun q hq => (HO2.out.lt q hq).1)); clear ho4 hg4)))
        go_roundw
        case rel => exact ⟨k + 1, by omega, by go_num, ⟨_, Lib.hid HT.out, HO4.out⟩, HB4.out⟩
        case measure => simp [intOf]; omega
    · obtain rfl : k = N := by omega
      have hFF : P.filter pr = F := by have := HF.out; rwa [List.take_of_length_le (by rw [HNL.out]; omega)] at this
      have HFF := Lib.hid hFF
      clear hFF hb
      go_wp2
      go_ret
      exact ⟨HBW.out.trans (HB.out.mono HBW.out.size), _, rfl, by rw [HFF.out]; exact own_base HOWN.out HBW.out.size⟩
set_option maxRecDepth 100000 in
set_option maxHeartbeats 4000000 in
theorem refReleased_any (A : Option Addr) (n c : Nat) (l : List Ev) (day : Int) (w : World) (h : Rws Ev.cs 6 w w.heap.size A n c l) (hn : n ≤ 400) (hd : ∀ x ∈ l, 0 ≤ x.d ∧ x.d ≤ 1000000000) (h0 : 0 ≤ day) (h1 : day ≤ 1000000000) :
    Calls Try.prog 34 #[.slice A n c, .int .i64 day] w fun e w' => Below w.heap.size w w' ∧ ∃ v, e = .returned v ∧ w'.ownsRow w.heap.size 9 1 v (relL l day).length (Ss (relL l day)) := by
  have hcap := h.cap
  have hmax := h.max
  have PL : Hid (Calls Try.prog 17 #[.slice A n c] w fun e w' => Below w.heap.size w w' ∧ ∃ v, e = .returned v ∧ w'.ownsRow w.heap.size 9 1 v (platsR l).length (Ss (platsR l))) := Lib.hid (refPlatforms_any A n c l w h (by omega))
  have hRL : (platsR l).length ≤ 400 := by
    have := platsR_len l n
    rw [List.take_of_length_le (by rw [h.len]; omega)] at this
    omega
  obtain ⟨K, hK⟩ : ∃ K : Tx → List Int, K = fun t => reasonsR (l.filter (upF day)) ⟨t.toArray⟩ day := ⟨_, rfl⟩
  have RS : Hid (∀ t W, Below w.heap.size w W → Calls Try.prog 24 #[.slice A n c, .string ⟨t.toArray⟩, .int .i64 day] W fun e w' => Below W.heap.size W w' ∧ ∃ v, e = .returned v ∧ w'.ownsRow W.heap.size 3 1 v (K t).length (i64s (K t))) := Lib.hid fun t W hW => by
    rw [hK]
    exact reasonsR_any A n c l ⟨t.toArray⟩ day W (h.below hW (Nat.le_refl _) hW.size) hn hd h0 h1
  have hKl : ∀ t, (K t).length ≤ 5 := fun t => by rw [hK]; exact rs_len _ _ _ _ _
  have HKL := Lib.hid hKl
  obtain ⟨pr, hpr⟩ : ∃ pr : Tx → Bool, pr = fun t => (tagR (K t) == 2) := ⟨_, rfl⟩
  have hG : relL l day = (platsR l).filter pr := by rw [hpr, hK]; rfl
  rw [hG]
  have HPR : Hid (∀ t, (tagR (K t) == 2) = pr t) := Lib.hid fun t => by rw [hpr]
  generalize platsR l = P at PL hRL ⊢
  clear h hK hKl hpr hG hd h0 h1
  obtain ⟨N, hN⟩ : ∃ N, P.length = N := ⟨_, rfl⟩
  rw [hN] at PL hRL
  have HNL := Lib.hid hN
  clear hN
  go_enter Try.func34, Try.ntmps34
  go_wp2_with (go_at_call 17; refine PL.out.mono ?_; rintro e w1 ⟨hbw, v, rfl, hown⟩; obtain ⟨A1, c1, rfl, hr⟩ := tx_own hown HNL.out; have H : Hid (∀ w', Below w1.heap.size w1 w' → Rws tx 1 w' w1.heap.size A1 N c1 P) := Lib.hid (fun w' hb => hr.below hb (Nat.le_refl _) (Nat.le_refl _)); have HBW := Lib.hid hbw; have hcap1 := hr.cap; have hmax1 := hr.max; clear hown hr hbw)
  go_loopw [6, 7] (fun v i wr => ∃ k : Nat, k ≤ N ∧ i = .int .i64 k ∧ (∃ F : List Tx, Hid ((P.take k).filter pr = F) ∧ wr.ownsRow w1.heap.size 9 1 v F.length (Ss F)) ∧ Below w1.heap.size w1 wr) (fun _ i _ => N - (intOf i).toNat)
  case atStart => exact ⟨0, Nat.zero_le _, rfl, ⟨[], Lib.hid rfl, World.ownsRow_nil _ _ _ _⟩, Below.refl _ _⟩
  case round =>
    obtain ⟨k, hk, rfl, ⟨F, HF, hown⟩, hb⟩ := hrel
    have HB := Lib.hid hb
    have HOWN := Lib.hid hown
    have ow := hb.size
    have hfl : F.length ≤ 400 := by
      have := List.length_filter_le pr (P.take k)
      rw [HF.out, List.length_take] at this
      omega
    clear hown
    by_cases hlt : k < N
    · obtain ⟨b, o, t, rfl, hbb, hx, hc⟩ := (H.out _ hb).tx hlt
      have ob : b < wr.heap.size := by omega
      have HT : Hid ((P.take (k + 1)).filter pr = F ++ if pr t = true then [t] else []) := Lib.hid (by
        rw [take_step hx, List.filter_append, HF.out]
        by_cases hd : pr t = true <;> simp [hd])
      have HX := Lib.hid hx
      clear hx hb
      obtain ⟨u, hu⟩ : ∃ u, pr t = u := ⟨_, rfl⟩
      have HU : Hid ((tagR (K t) == 2) = u) := Lib.hid ((HPR.out t).trans hu)
      rw [hu] at HT
      clear hu
      have hkl := HKL.out t
      have RT := Lib.hid (RS.out t)
      generalize K t = X at RT HU hkl
      have DU : Hid (∀ A c W, Nums W W.heap.size A X.length c X → Calls Try.prog 26 #[.slice A X.length c] W fun e w' => W = w' ∧ e = .returned (.int .i64 (tagR X))) := Lib.hid fun A c W hW => tagR_any A X.length c _ X W hW
      generalize tagR X = T at DU HU
      have hU := HU.out
      cases u
      · go_wp2_with (first
          | (go_at_call 24; refine (RT.out _ (by have hb0 := HBW.out.trans (HB.out.mono HBW.out.size); exact (by repeat (first | with_reducible exact Below.refl _ _ | with_reducible assumption | with_reducible refine Below.drew ?_ | with_reducible refine Below.drewN ?_ _ | with_reducible refine Below.alloc2 ?_ _ | with_reducible refine Below.alloc ?_ (by first | omega | (simp <;> omega)) _ | with_reducible refine Below.setCell ?_ (by first | omega | (simp <;> omega)) _ | with_reducible refine Below.step2 (by with_reducible assumption) ?_ | with_reducible refine Below.step (by with_reducible assumption) ?_ (by first | omega | (simp <;> omega)))))).mono ?_; rintro e w2 ⟨hb2, v2, rfl, hown2⟩; obtain ⟨A2, c2, rfl⟩ := own_sl hown2; have HNU := Lib.hid (Nums.own hown2); have HB2 : Hid (Below w1.heap.size w1 w2) := Lib.hid (by have hb0 := HB.out; refine Below.trans ?_ (hb2.mono ?_); (exact (by repeat (first | with_reducible exact Below.refl _ _ | with_reducible assumption | with_reducible refine Below.drew ?_ | with_reducible refine Below.drewN ?_ _ | with_reducible refine Below.alloc2 ?_ _ | with_reducible refine Below.alloc ?_ (by first | omega | (simp <;> omega)) _ | with_reducible refine Below.setCell ?_ (by first | omega | (simp <;> omega)) _ | with_reducible refine Below.step2 (by with_reducible assumption) ?_ | with_reducible refine Below.step (by with_reducible assumption) ?_ (by first | omega | (simp <;> omega))))); (first | omega | (simp; omega))); have HOA := Lib.hid (own_step HOWN.out hb2); clear hb2 hown2)
          | (go_at_call 26; refine (DU.out _ _ _ HNU.out).mono ?_; rintro e w3 ⟨rfl, rfl⟩; have HB3 := HB2; have HO2 := HOA; obtain ⟨b', o', t', e', -, hx', hc'⟩ := (H.out _ HB3.out).tx hlt; obtain ⟨rfl, rfl⟩ : b = b' ∧ o = o' := (by simpa using e'); obtain rfl : t = t' := (by rw [HX.out] at hx'; exact Option.some.inj hx'); have ob3 := HB3.out.size; have ob4 : b < w2.heap.size := (by have := HB2.out.size; omega); clear e' hx'))
        go_roundw
        case rel => exact ⟨k + 1, by omega, by go_num, ⟨F, Lib.hid (HT.out.trans (by simp)), HO2.out⟩, HB3.out⟩
        case measure => simp [intOf]; omega
      · go_wp2_with (first
          | (go_at_call 24; refine (RT.out _ (by have hb0 := HBW.out.trans (HB.out.mono HBW.out.size); exact (by repeat (first | with_reducible exact Below.refl _ _ | with_reducible assumption | with_reducible refine Below.drew ?_ | with_reducible refine Below.drewN ?_ _ | with_reducible refine Below.alloc2 ?_ _ | with_reducible refine Below.alloc ?_ (by first | omega | (simp <;> omega)) _ | with_reducible refine Below.setCell ?_ (by first | omega | (simp <;> omega)) _ | with_reducible refine Below.step2 (by with_reducible assumption) ?_ | with_reducible refine Below.step (by with_reducible assumption) ?_ (by first | omega | (simp <;> omega)))))).mono ?_; rintro e w2 ⟨hb2, v2, rfl, hown2⟩; obtain ⟨A2, c2, rfl⟩ := own_sl hown2; have HNU := Lib.hid (Nums.own hown2); have HB2 : Hid (Below w1.heap.size w1 w2) := Lib.hid (by have hb0 := HB.out; refine Below.trans ?_ (hb2.mono ?_); (exact (by repeat (first | with_reducible exact Below.refl _ _ | with_reducible assumption | with_reducible refine Below.drew ?_ | with_reducible refine Below.drewN ?_ _ | with_reducible refine Below.alloc2 ?_ _ | with_reducible refine Below.alloc ?_ (by first | omega | (simp <;> omega)) _ | with_reducible refine Below.setCell ?_ (by first | omega | (simp <;> omega)) _ | with_reducible refine Below.step2 (by with_reducible assumption) ?_ | with_reducible refine Below.step (by with_reducible assumption) ?_ (by first | omega | (simp <;> omega))))); (first | omega | (simp; omega))); have HOA := Lib.hid (own_step HOWN.out hb2); clear hb2 hown2)
          | (go_at_call 26; refine (DU.out _ _ _ HNU.out).mono ?_; rintro e w3 ⟨rfl, rfl⟩; have HB3 := HB2; have HO2 := HOA; obtain ⟨b', o', t', e', -, hx', hc'⟩ := (H.out _ HB3.out).tx hlt; obtain ⟨rfl, rfl⟩ : b = b' ∧ o = o' := (by simpa using e'); obtain rfl : t = t' := (by rw [HX.out] at hx'; exact Option.some.inj hx'); have ob3 := HB3.out.size; have ob4 : b < w2.heap.size := (by have := HB2.out.size; omega); clear e' hx')
          | (at_builtin; go_loud (refine app_s (W := F) (base := w1.heap.size) ?_ rfl _ _ rfl rfl t _ rfl ?_ (by omega) ?_ ?_; (exact own_step HO2.out (by exact (by repeat (first | with_reducible exact Below.refl _ _ | with_reducible assumption | with_reducible refine Below.drew ?_ | with_reducible refine Below.drewN ?_ _ | with_reducible refine Below.alloc2 ?_ _ | with_reducible refine Below.alloc ?_ (by first | omega | (simp <;> omega)) _ | with_reducible refine Below.setCell ?_ (by first | omega | (simp <;> omega)) _ | with_reducible refine Below.step2 (by with_reducible assumption) ?_ | with_reducible refine Below.step (by with_reducible assumption) ?_ (by first | omega | (simp <;> omega)))))); (focus (show Bk _ _ _ #[.string ⟨t.toArray⟩]; exact (by repeat (first | with_reducible assumption | with_reducible exact Bk.at_ (by first | (simp; done) | omega) | with_reducible refine Bk.alloc ?_ _ | with_reducible refine Bk.drew ?_ | with_reducible refine Bk.drewN ?_ _ | with_reducible refine Bk.step (by with_reducible assumption) ?_ (by first | omega | (simp <;> omega)))))); (focus (have := HB3.out.size; first | (simp; done) | (simp; omega) | omega)); intro v4 w4 ho4 hg4; have HO4 := Lib.hid ho4; have HB4 : Hid (Below w1.heap.size w1 w4) := Lib.hid (Below.grown_ (by have hb0 := HB3.out; exact (by repeat (first | with_reducible exact Below.refl _ _ | with_reducible assumption | with_reducible refine Below.drew ?_ | with_reducible refine Below.drewN ?_ _ | with_reducible refine Below.alloc2 ?_ _ | with_reducible refine Below.alloc ?_ (by first | omega | (simp <;> omega)) _ | with_reducible refine Below.setCell ?_ (by first | omega | (simp <;> omega)) _ | with_reducible refine Below.step2 (by with_reducible assumption) ?_ | with_reducible refine Below.step (by with_reducible assumption) ?_ (by first | omega | (simp <;> omega))))) hg4 (by have := HB3.out.size; first | (simp; done) | (simp; omega) | omega) (fun q hq => (HO2.out.lt q hq).1)); clear ho4 hg4)))
        go_roundw
        case rel => exact ⟨k + 1, by omega, by go_num, ⟨_, Lib.hid HT.out, HO4.out⟩, HB4.out⟩
        case measure => simp [intOf]; omega
    · obtain rfl : k = N := by omega
      have hFF : P.filter pr = F := by have := HF.out; rwa [List.take_of_length_le (by rw [HNL.out]; omega)] at this
      have HFF := Lib.hid hFF
      clear hFF hb
      go_wp2
      go_ret
      exact ⟨HBW.out.trans (HB.out.mono HBW.out.size), _, rfl, by rw [HFF.out]; exact own_base HOWN.out HBW.out.size⟩

end Go.Proofs.Ytgjjjnofdjhikaa
