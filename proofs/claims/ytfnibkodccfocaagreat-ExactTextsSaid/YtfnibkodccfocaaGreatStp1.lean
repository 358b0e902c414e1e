/- Small steps of worlds and blocks (the words BL and BK). -/
import Derived.Test.YtfnibkodccfocaaGreatSameI
namespace Go.Proofs.YtfnibkodccfocaaGreat
open Go.RowKit

theorem Below.step {D E : Nat} {w w1 w2 : World} (h : Below E w1 w2) (h1 : Below D w w1) (hD : D ≤ E) : Below D w w2 := h1.trans (h.mono hD)
theorem Below.alloc2 {w w1 : World} (h : Below w.heap.size w w1) (o : Obj) : Below w.heap.size w (w1.alloc o) := h.alloc h.size o
theorem Below.step2 {w w1 w2 : World} (h : Below w1.heap.size w1 w2) (h1 : Below w.heap.size w w1) : Below w.heap.size w w2 := h1.trans (h.mono h1.size)
theorem Bk.step {D g : Nat} {t : TypeId} {cs : Array Value} {w1 w2 : World} (hb : Below D w1 w2) (h : Bk w1 g t cs) (hg : g < D) : Bk w2 g t cs := h.below hb hg
theorem Bk.at_ {w : World} {g : Nat} {t : TypeId} {cs : Array Value} (hg : w.heap.size = g) : Bk (w.alloc (.cells cs t)) g t cs := by subst hg; exact Bk.alloc_ _ _ _
theorem Bk.drew {w : World} {g : Nat} {t : TypeId} {cs : Array Value} (h : Bk w g t cs) : Bk w.drew g t cs := h
theorem IntH.past {w0 : World} {s : Bool} {A : Option Addr} {n c : Nat} {z : Int} {K : Nat} {nf : Bool} (h : IntH w0 s A n c z K nf) {g t : Nat} {x : Bool} {y1 : Option Addr} {y2 y3 : Nat} (hb : Bk w0 g t #[.bool x, .slice y1 y2 y3]) (u v : Value) :
    IntH ((w0.setCell ⟨g, 0, none⟩ u).setCell ⟨g, 1, none⟩ v) s A n c z K nf := by
  obtain ⟨l, h1, h2, h3⟩ := h.lim
  have hs : ((w0.setCell ⟨g, 0, none⟩ u).setCell ⟨g, 1, none⟩ v).heap.size = w0.heap.size := by simp [World.setCell]
  exact ⟨⟨l, fun w' hb' => ((h1 w0 (Below.refl _ _)).past hb u v).below hb' (by rw [hs]; exact Nat.le_refl _) (by have := hb'.size; omega), h2, h3⟩, h.len⟩
theorem Bk.duo {w : World} {g t : Nat} {a b : Value} (h : Bk w g t #[a, b]) : w.cell? ⟨g, 0, none⟩ = some a ∧ w.cell? ⟨g, 1, none⟩ = some b := ⟨by simpa using h.cell 0, by simpa using h.cell 1⟩

end Go.Proofs.YtfnibkodccfocaaGreat
