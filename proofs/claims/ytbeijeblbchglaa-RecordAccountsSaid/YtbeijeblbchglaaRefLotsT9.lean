/- Chapter 9, walks: the reference's Lots. -/
import Derived.Test.YtbeijeblbchglaaRefLots9
namespace Go.Proofs.Ytbeijeblbchglaa
open Go.RowKit Go.WideShapes Go.Deep

section
variable {w : World} {base : Nat} {W H : List Lt} {vw : Value} {ops : Array Oper} {rest : List Oper} {o : Oper} {a : Act} {Q : Exit → Act → World → Prop}
/-- A row of lots, behind a row of the call's own. -/
theorem app_rows (h : w.ownsRow base 54 5 vw W.length (W.flatMap Lt.cs)) (hgd : o.guard = none) (s x : Operand) (ho : o.op = .call { callee := .builtin .append, args := #[s, x], argTypes := #[46, 46] })
    (hs : a.eval s = vw) {A : Option Addr} {n c B : Nat} (hx : a.eval x = .slice A n c) (hr : Rws Lt.cs 5 w B A n c H) (hn : W.length + n ≤ 100000) (hbase : base ≤ w.heap.size)
    (hK : ∀ v' w', w'.ownsRow base 54 5 v' (W ++ H).length ((W ++ H).flatMap Lt.cs) → w.grownBy w' vw.ownBlock → wpList Try.prog ops Q rest (a.put o.dst v') w') : wpList Try.prog ops Q (o :: rest) a w := by
  obtain ⟨i0, z, hi0, hz0, hzs, hz1, hz2⟩ := info_cells info_lot
  have hl := hr.len
  cases A with
  | none =>
    obtain ⟨rfl, rfl⟩ := hr.nil rfl
    have hl : H = [] := List.eq_nil_of_length_eq_zero hl
    subst hl
    exact wpList_append_own_none hgd s x _ ho base 54 i0 5 Try.underlying46 hi0 vw W.length _ hs h hx (hK vw w (by simpa using h) (World.grownBy.refl _ _))
  | some ad =>
    exact wpList_append_own_at w hgd s x _ ho base 54 i0 z 5 48 Try.underlying46 hi0 hz0 hz1 hz2 hzs (by omega) vw W.length (W.flatMap Lt.cs) hs h ad n c (H.flatMap Lt.cs) hx (by rw [flat_length Lt.wide H, hl]) hr.news (ones_of Lt.one H) (by unfold maxLen; omega) (by omega) hbase fun v' w' h1 h2 _ _ => hK v' w' (by subst hl; simpa using h1) h2
end
/-- The lots of all terms. -/
def lotsT (t : List Q4) (l : List Mv) : List Lt := t.flatMap fun x => lotsR x.s l
theorem lotsT_step {t : List Q4} {k : Nat} {x : Q4} (hx : t[k]? = some x) (l : List Mv) : lotsT (t.take (k + 1)) l = lotsT (t.take k) l ++ lotsR x.s l := by
  rw [take_step hx]
  simp [lotsT]
theorem lotsR_len {p : ByteArray} {l : List Mv} (h : stOk p l) : (lotsR p l).length ≤ l.length := by
  rw [← lots_same h, lotsP, List.length_append]
  have := runM_len p l l.length (Nat.le_refl _)
  rwa [List.take_length] at this
theorem lotsT_len {l : List Mv} (h : ∀ p, stOk p l) : ∀ t : List Q4, (lotsT t l).length ≤ t.length * l.length
  | [] => by simp [lotsT]
  | x :: t => by
    have h1 := lotsR_len (h x.s)
    have h2 := lotsT_len h t
    have e : (lotsT (x :: t) l).length = (lotsR x.s l).length + (lotsT t l).length := by simp [lotsT]
    rw [e, List.length_cons, Nat.add_mul]
    omega
set_option maxRecDepth 100000 in
set_option maxHeartbeats 4000000 in
theorem refLots_any (T A : Option Addr) (tn tc n c : Nat) (t : List Q4) (l : List Mv) (w : World) (ht : Rws Q4.cs 4 w w.heap.size T tn tc t) (h : Rws Mv.cs 4 w w.heap.size A n c l) (hst : ∀ p, stOk p l) (hok : l.all okM = true) (hn : n ≤ 300) (htn : tn ≤ 60) :
    Calls Try.prog 28 #[.slice T tn tc, .slice A n c] w fun e w' => Below w.heap.size w w' ∧ ∃ v, e = .returned v ∧ w'.ownsRow w.heap.size 54 5 v (lotsT t l).length ((lotsT t l).flatMap Lt.cs) := by
  have hcap := ht.cap
  have hmax := ht.max
  have HLT := Lib.hid ht.len
  have LO : Hid (∀ p W, Below w.heap.size w W → Calls Try.prog 63 #[.slice A n c, .string p] W fun e w' => Below W.heap.size W w' ∧ ∃ v, e = .returned v ∧ w'.ownsRow W.heap.size 54 5 v (lotsR p l).length ((lotsR p l).flatMap Lt.cs)) := Lib.hid fun p W hW =>
    refLotsOf_any p A n c l W (h.below hW (Nat.le_refl _) hW.size) (hst p) hok hn
  have HLN : Hid (∀ k p, (lotsT (t.take k) l).length + (lotsR p l).length ≤ 20000) := Lib.hid fun k p => by
    have h1 := lotsT_len hst (t.take k)
    have h2 := lotsR_len (hst p)
    have h3 : (t.take k).length ≤ 60 := by rw [List.length_take, HLT.out]; omega
    have h4 : l.length ≤ 300 := by rw [h.len]; exact hn
    have h5 : (t.take k).length * l.length ≤ 60 * 300 := Nat.mul_le_mul h3 h4
    omega
  have HT : Hid (∀ w', Below w.heap.size w w' → Rws Q4.cs 4 w' w.heap.size T tn tc t) := fun w' hb => ht.below hb (Nat.le_refl _) (Nat.le_refl _)
  clear ht h hst hok
  go_enter Try.func28, Try.ntmps28
  go_wp2
  go_loopw [5, 6] (fun vo i wr => ∃ k : Nat, k ≤ tn ∧ i = .int .i64 k ∧ wr.ownsRow w.heap.size 54 5 vo (lotsT (t.take k) l).length ((lotsT (t.take k) l).flatMap Lt.cs) ∧ Below w.heap.size w wr) (fun _ i _ => tn - (intOf i).toNat)
  case atStart => exact ⟨0, Nat.zero_le _, rfl, World.ownsRow_nil _ _ _ _, (by repeat (first | with_reducible exact Below.refl _ _ | with_reducible assumption | with_reducible refine Below.drew ?_ | with_reducible refine Below.drewN ?_ _ | with_reducible refine Below.alloc2 ?_ _ | with_reducible refine Below.alloc ?_ (by first | omega | (simp <;> omega)) _ | with_reducible refine Below.setCell ?_ (by first | omega | (simp <;> omega)) _ | with_reducible refine Below.step2 (by with_reducible assumption) ?_ | with_reducible refine Below.step (by with_reducible assumption) ?_ (by first | omega | (simp <;> omega))))⟩
  case round =>
    obtain ⟨k, hk, rfl, ho, hb⟩ := hrel
    have HB := Lib.hid hb
    have HO := Lib.hid ho
    have ow := hb.size
    by_cases hlt : k < tn
    · obtain ⟨b, o, ⟨xp, xa, xb, xc⟩, rfl, hbb, hx, c0, c1, c2, c3⟩ := (HT.out _ hb).q4 hlt
      dsimp only at c0 c1 c2 c3
      have HX := Lib.hid (lotsT_step hx l)
      have z1 : (0 : Int) ≤ (k : Int) := by omega
      have z2 : (k : Int) < (tn : Int) := by omega
      have hln := HLN.out k xp
      clear hx hb ho
      go_wp2_with (first
        | (at_builtin; go_loud (refine app_rows (W := lotsT (t.take k) l) HO1.out rfl _ _ rfl rfl rfl HR1.out (by omega) HB1.out.size ?_; intro v2 w2 ho2 hg2; have HO2 := Lib.hid ho2; have HG2 := Lib.hid hg2; clear ho2 hg2))
        | (go_at_call 63; refine (LO.out xp _ HB.out).mono ?_; rintro e w1 ⟨hb1, v, rfl, hown⟩; obtain ⟨A1, c1, rfl, hr⟩ := Rws.of_own hown rfl; have HR1 := Lib.hid hr; have HO1 := Lib.hid (own_step HO.out hb1); have HB1 : Hid (Below w.heap.size w w1) := Lib.hid (HB.out.trans (hb1.mono HB.out.size)); clear hr hown hb1))
      go_roundw
      case rel =>
        refine ⟨k + 1, by omega, by go_num, ?_, ?_⟩
        · rw [HX.out]
          exact HO2.out
        · exact Below.grown_ (D := w.heap.size) HB1.out HG2.out HB1.out.size (fun q hq => (HO1.out.lt q hq).1)
      case measure => simp [intOf]; omega
    · go_wp2
      go_ret
      rw [List.take_of_length_le (by rw [HLT.out]; omega)] at HO
      exact ⟨HB.out, _, rfl, HO.out⟩

end Go.Proofs.Ytbeijeblbchglaa
