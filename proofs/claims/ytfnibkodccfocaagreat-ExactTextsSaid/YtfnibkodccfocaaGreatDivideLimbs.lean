/- The walks of divide, whatever its numbers are, and of divideLimbs; words of one and two limbs. -/
import Derived.Test.YtfnibkodccfocaaGreatKnuthB
namespace Go.Proofs.YtfnibkodccfocaaGreat
open Go.RowKit

theorem divide_any (gd base n c m c2 : Nat) (A A2 : Option Addr) (a b : List Nat) (vq vr vb : Value) (lq lr lb : List Nat) (w : World) (hD : DivS w gd base vq vr vb lq lr lb) (hbase : base ≤ w.heap.size) (hgb : base ≤ gd)
    (ha : Lim w w.heap.size A n c a) (hoff : 0 < n → Off A (DS gd vq vr vb)) (na : Norm a) (hb : Lim w w.heap.size A2 m c2 b) (hoff2 : 0 < m → Off A2 (DS gd vq vr vb)) (nb : Norm b) (hpos : 0 < val b) (hn : n ≤ 536870912) :
    Calls Tryz.prog 97 #[.pointer (some ⟨gd, 0, none⟩), .slice A n c, .slice A2 m c2] w (DivR gd base vq vr vb (val a / val b) (val a % val b) w) := by
  rcases Nat.lt_or_ge (val a) (val b) with h | h
  · exact divide_lt gd base n c m c2 A A2 a b vq vr vb lq lr lb w hD hbase ha hoff na hb nb h (by omega)
  · have hm0 : 0 < m := by
      rcases Nat.eq_zero_or_pos m with h0 | h0
      · have : b = [] := List.eq_nil_of_length_eq_zero (by rw [hb.len, h0])
        rw [this, val_nil] at hpos; omega
      · exact h0
    by_cases hm1 : m = 1
    · exact divide_limb gd base n c m c2 A A2 a b vq vr vb lq lr lb w hD hbase hgb ha hoff na hb nb hm1 h (by omega)
    · exact divide_knuth gd base n c m c2 A A2 a b vq vr vb lq lr lb w hD hbase ha hoff na hb hoff2 nb (by omega) h hn

/-- The slice value reads as the number x. -/
def NatAt (w : World) (B : Nat) (v : Value) (x : Nat) : Prop := ∃ A n c l, v = .slice A n c ∧ Lim w B A n c l ∧ Norm l ∧ val l = x

theorem OwnL.natAt {w : World} {base : Nat} {t : TypeId} {v : Value} {l : List Nat} (h : OwnL w base t v l) (hn : Norm l) {x : Nat} (hx : val l = x) : NatAt w w.heap.size v x := by
  obtain ⟨A, c, hv, hl⟩ := h.lim (Nat.le_refl _)
  exact ⟨A, l.length, c, l, hv, hl, hn, hx⟩

/-- What divideLimbs leaves. -/
def DivLR (q r : Nat) (w : World) (e : Ending) (w' : World) : Prop :=
  Below w.heap.size w w' ∧ ∃ vq vr, e = .returned (.tuple #[vq, vr]) ∧ NatAt w' w'.heap.size vq q ∧ NatAt w' w'.heap.size vr r
theorem NatAt.drewN {w : World} {B : Nat} {v : Value} {x : Nat} (h : NatAt w B v x) (k : Nat) : NatAt (w.drewN k) B v x := by
  obtain ⟨A, n, c, l, e, hl, hn, hx⟩ := h
  exact ⟨A, n, c, l, e, hl.drewN k, hn, hx⟩

set_option maxRecDepth 100000 in
set_option maxHeartbeats 1000000 in
theorem divideLimbs_any (n c m c2 : Nat) (A A2 : Option Addr) (a b : List Nat) (w : World) (ha : Lim w w.heap.size A n c a) (na : Norm a) (hb : Lim w w.heap.size A2 m c2 b) (nb : Norm b) (hpos : 0 < val b) (hn : n ≤ 536870912) :
    Calls Tryz.prog 67 #[.slice A n c, .slice A2 m c2] w (DivLR (val a / val b) (val a % val b) w) := by
  have hD : DivS (w.alloc (.cells #[.slice none 0 0, .slice none 0 0, .slice none 0 0] 118)) w.heap.size w.heap.size (.slice none 0 0) (.slice none 0 0) (.slice none 0 0) [] [] [] :=
    ⟨Bk.alloc_ _ _ _, OwnL.nil_ _ _ _, OwnL.nil_ _ _ _, OwnL.nil_ _ _ _, fun k h => by simp [Value.ownBlock] at h, fun k h => by simp [Value.ownBlock] at h, fun k h => by simp [Value.ownBlock] at h⟩
  have off_ : ∀ (A : Option Addr) (n c : Nat) (l : List Nat), 0 < n → Lim w w.heap.size A n c l → Off A (DS w.heap.size (.slice none 0 0) (.slice none 0 0) (.slice none 0 0)) := by
    intro A n c l h0 hl ad hA hS
    obtain ⟨b', o', e, hb', _⟩ := hl.addr h0
    rw [hA] at e
    have e1 : ad = ⟨b', o', none⟩ := Option.some.inj e
    subst e1
    rcases hS with h | h | h | h
    · have h2 : b' = w.heap.size := h
      omega
    · simp [Value.ownBlock] at h
    · simp [Value.ownBlock] at h
    · simp [Value.ownBlock] at h
  have hdiv := divide_any w.heap.size w.heap.size n c m c2 A A2 a b _ _ _ [] [] [] (w.alloc (.cells #[.slice none 0 0, .slice none 0 0, .slice none 0 0] 118)) hD (by simp) (Nat.le_refl _)
    (ha.alloc _ (Nat.le_refl _) (by simp)) (fun h0 => off_ A n c a h0 ha) na (hb.alloc _ (Nat.le_refl _) (by simp)) (fun h0 => off_ A2 m c2 b h0 hb) nb hpos hn
  have HDIV := Lib.hid hdiv
  clear hdiv hD off_ ha hb
  go_enter Tryz.func67, Tryz.ntmps67
  go_wp2_with fail
  refine HDIV.out.mono ?_
  rintro e w2 ⟨rfl, vq, vr, vb, lq, lr, lb, hD2, n1, v1, n2, v2, hF, hS⟩
  obtain ⟨Aq, cq, hvq⟩ := hD2.q.form
  obtain ⟨Ar, cr, hvr⟩ := hD2.r.form
  have e0 : w2.cell? ⟨w.heap.size, 0, none⟩ = some (.slice Aq lq.length cq) := by
    have := hD2.bk.cell 0
    rw [hvq] at this
    simpa using this
  have e1 : w2.cell? ⟨w.heap.size, 1, none⟩ = some (.slice Ar lr.length cr) := by
    have := hD2.bk.cell 1
    rw [hvr] at this
    simpa using this
  have HQ := Lib.hid (hD2.q.natAt n1 v1)
  have HR := Lib.hid (hD2.r.natAt n2 v2)
  rw [hvq] at HQ
  rw [hvr] at HR
  have hB : Below w.heap.size w w2 := ((Below.refl _ _).alloc (Nat.le_refl _) _).trans (hF.below (by simp) (fun k hk h => by
    rcases h with h | h | h | h
    · omega
    · simp [Value.ownBlock] at h
    · simp [Value.ownBlock] at h
    · simp [Value.ownBlock] at h))
  have HB := Lib.hid hB
  clear hD2 n1 v1 n2 v2 hF hS hvq hvr hB
  go_wp2
  go_quiet (fail)
  go_wp2
  go_ret2
  exact ⟨Below.drewN HB.out _, _, _, rfl, HQ.out.drewN _, HR.out.drewN _⟩

/-- The value of at most two limbs. -/
theorem val_two {l : List Nat} (h : l.length ≤ 2) : val l = l.getD 0 0 + 4294967296 * l.getD 1 0 := by
  match l, h with
  | [], _ => rfl
  | [x], _ => simp [val]
  | [x, y], _ => simp [val]

end Go.Proofs.YtfnibkodccfocaaGreat
