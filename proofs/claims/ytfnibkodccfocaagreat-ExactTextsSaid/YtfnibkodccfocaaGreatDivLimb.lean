/- The state of a division, and the walk of divideByLimb. -/
import Derived.Test.YtfnibkodccfocaaGreatShl
import Derived.Test.YtfnibkodccfocaaGreatShr
import Derived.Test.YtfnibkodccfocaaGreatTakeOff
import Derived.Deep.RegionHeld3
namespace Go.Proofs.YtfnibkodccfocaaGreat
open Go.RowKit

/-- The address does not lie in a block of S. -/
def Off (A : Option Addr) (S : Nat → Prop) : Prop := ∀ ad, A = some ad → ¬ S ad.block
theorem Lim.fr {w w' : World} {S : Nat → Prop} {A : Option Addr} {n c : Nat} {l : List Nat} (h : Lim w w.heap.size A n c l) (hf : Fr S w w') (ho : 0 < n → Off A S) : Lim w' w'.heap.size A n c l := by
  refine ⟨⟨h.sl.len, h.sl.cap, h.sl.max, fun hn => ?_⟩, h.bd⟩
  obtain ⟨b, o, e, hb, hc⟩ := h.sl.cells hn
  refine ⟨b, o, e, Nat.lt_of_lt_of_le hb hf.size, fun k u hu => ?_⟩
  rw [World.cell?_of_block (a := ⟨b, o + k, none⟩) (hf.block b hb (ho hn _ e))]
  exact hc k u hu
theorem Fr.refl (S : Nat → Prop) (w : World) : Fr S w w := ⟨rfl, rfl, rfl, Nat.le_refl _, fun _ _ _ => rfl⟩
theorem Fr.trans {S T : Nat → Prop} {a b c : World} (h : Fr S a b) (k : Fr T b c) (hT : ∀ x, x < a.heap.size → T x → S x) : Fr S a c :=
  ⟨k.os.trans h.os, k.tape.trans h.tape, k.output.trans h.output, Nat.le_trans h.size k.size, fun i hi hs => (k.block i (Nat.lt_of_lt_of_le hi h.size) (fun ht => hs (hT i hi ht))).trans (h.block i hi hs)⟩
theorem Fr.mono {S T : Nat → Prop} {a b : World} (h : Fr S a b) (hT : ∀ x, S x → T x) : Fr T a b := ⟨h.os, h.tape, h.output, h.size, fun k hk ht => h.block k hk (fun hs => ht (hT k hs))⟩
theorem Fr.setCell {S : Nat → Prop} {a b : World} (h : Fr S a b) {g : Nat} (hg : g < a.heap.size → S g) (o : Nat) (u : Value) : Fr S a (b.setCell ⟨g, o, none⟩ u) := h.only ((Only.refl g b).setCell o u) hg
theorem Fr.drew {S : Nat → Prop} {a b : World} (h : Fr S a b) : Fr S a b.drew := ⟨h.os, h.tape, h.output, h.size, h.block⟩
theorem Fr.drewN {S : Nat → Prop} {a b : World} (h : Fr S a b) (n : Nat) : Fr S a (b.drewN n) := ⟨h.os, h.tape, h.output, h.size, h.block⟩
theorem Fr.alloc {S : Nat → Prop} {a b : World} (h : Fr S a b) (o : Obj) : Fr S a (b.alloc o) := h.trans (Fr.of_below (S := S) ((Below.refl _ _).alloc (Nat.le_refl _) o)) (fun _ _ h => h)
theorem Fr.below {S : Nat → Prop} {a b : World} (h : Fr S a b) {B : Nat} (hB : B ≤ a.heap.size) (hS : ∀ k, k < B → ¬ S k) : Below B a b := ⟨h.os, h.tape, h.output, h.size, fun k hk => h.block k (by omega) (hS k hk)⟩
theorem Fr.grown {S : Nat → Prop} {a b c : World} (h : Fr S a b) {row : Option Nat} (hg : b.grownBy c row) (hr : ∀ k, k < a.heap.size → row = some k → S k) : Fr S a c :=
  ⟨hg.os.trans h.os, hg.tape.trans h.tape, hg.output.trans h.output, Nat.le_trans h.size hg.size, fun k hk hs => (hg.block k (Nat.lt_of_lt_of_le hk h.size) (fun e => hs (hr k hk e.symm))).trans (h.block k hk hs)⟩

/-- Two slices that own no block together. -/
def Ap (u v : Value) : Prop := ∀ k, u.ownBlock = some k → v.ownBlock ≠ some k
theorem Ap.symm {u v : Value} (h : Ap u v) : Ap v u := fun k hv hu => h k hu hv

theorem OwnL.ne_bk {w : World} {base : Nat} {t t' : TypeId} {v : Value} {l : List Nat} (h : OwnL w base t v l) {g : Nat} {cs : Array Value} (hb : Bk w g t' cs) (ht : t ≠ t') : v.ownBlock ≠ some g := by
  intro hk
  rcases h with ⟨rfl, _⟩ | ⟨g', n, c, O, rfl, _, hbuf, _⟩
  · simp [Value.ownBlock] at hk
  · simp [Value.ownBlock] at hk
    subst hk
    have h1 := hbuf.bk
    unfold Bk at h1 hb
    rw [h1] at hb
    injection hb with hb
    injection hb with _ e
    exact ht e

/-- The blocks of a division: its own, and those of its three numbers. -/
def DS (gd : Nat) (vq vr vb : Value) : Nat → Prop := fun k => k = gd ∨ vq.ownBlock = some k ∨ vr.ownBlock = some k ∨ vb.ownBlock = some k

/-- A division at block gd, with its three slices of limbs. -/
structure DivS (w : World) (gd base : Nat) (vq vr vb : Value) (lq lr lb : List Nat) : Prop where
  bk : Bk w gd 118 #[vq, vr, vb]
  q : OwnL w base 75 vq lq
  r : OwnL w base 75 vr lr
  b : OwnL w base 75 vb lb
  qr : Ap vq vr
  qb : Ap vq vb
  rb : Ap vr vb

/-- What a division leaves: quotient and remainder; what it has written of what was there is its own. -/
def DivR (gd base : Nat) (vq vr vb : Value) (q r : Nat) (w : World) (e : Ending) (w' : World) : Prop :=
  e = .returned (.tuple #[]) ∧ ∃ vq' vr' vb' lq lr lb, DivS w' gd base vq' vr' vb' lq lr lb ∧ Norm lq ∧ val lq = q ∧ Norm lr ∧ val lr = r ∧ Fr (DS gd vq vr vb) w w' ∧
    (∀ k, DS gd vq' vr' vb' k → DS gd vq vr vb k ∨ w.heap.size ≤ k)

end Go.Proofs.YtfnibkodccfocaaGreat
