/- Chapter 8, without a walk: movements one after the other. -/
import Derived.Test.YtmcefodfppdajaaMvS8
namespace Go.Proofs.Ytmcefodfppdajaa
open Go.RowKit Go.Maps Go.Deep

def mvsC (c : Sh → Int) (ms : List Mo) : Sh → Int := ms.foldl mvC c
noncomputable def mvsR : (Sh → Int) → List Mo → Int × Nat
  | _, [] => (0, 0)
  | c, x :: r => if mvErr c x = 0 then ((mvsR (mvC c x) r).1, (mvsR (mvC c x) r).2 + 1) else (mvErr c x, 0)
def Pos8 (c : Sh → Int) : Prop := ∀ k, 0 ≤ c k ∧ c k ≤ 100000000000
/-- How far the movements are. -/
def MvI (c : Sh → Int) (ms : List Mo) (k : Nat) : Prop := mvsR c ms = ((mvsR (mvsC c (ms.take k)) (ms.drop k)).1, (mvsR (mvsC c (ms.take k)) (ms.drop k)).2 + k)
theorem mvsC_step {c : Sh → Int} {ms : List Mo} {k : Nat} {x : Mo} (h : ms[k]? = some x) : mvsC c (ms.take (k + 1)) = mvC (mvsC c (ms.take k)) x := by
  unfold mvsC
  rw [take_step h, List.foldl_append]
  rfl
theorem MvI.start (c : Sh → Int) (ms : List Mo) : MvI c ms 0 := by simp [MvI, mvsC]
theorem MvI.next {c : Sh → Int} {ms : List Mo} {k : Nat} {x : Mo} (h : MvI c ms k) (hx : ms[k]? = some x) (h0 : mvErr (mvsC c (ms.take k)) x = 0) : MvI c ms (k + 1) := by
  unfold MvI at h ⊢
  rw [drop_step hx, mvsR, if_pos h0] at h
  rw [h, mvsC_step hx]
  dsimp only
  congr 1
  omega
theorem MvI.bad {c : Sh → Int} {ms : List Mo} {k : Nat} {x : Mo} (h : MvI c ms k) (hx : ms[k]? = some x) (h0 : mvErr (mvsC c (ms.take k)) x ≠ 0) : mvsR c ms = (mvErr (mvsC c (ms.take k)) x, k) := by
  unfold MvI at h
  rw [drop_step hx, mvsR, if_neg h0] at h
  rw [h]
  simp
theorem MvI.end_ {c : Sh → Int} {ms : List Mo} {k : Nat} (h : MvI c ms k) (hk : ms.length ≤ k) : mvsR c ms = (0, k) := by
  unfold MvI at h
  rw [List.drop_eq_nil_of_le hk] at h
  rw [h]
  simp [mvsR]
theorem mv_key {x : Mo} (hp : x.p.size ≤ 30) (h : moErr x = 0) : shOk (x.p, x.f, x.b) ∧ shOk (x.p, x.t, x.a) := by
  obtain ⟨h1, h2, h3, h4, -⟩ := moR_iff (moErr_zero h).2.1
  exact ⟨⟨by show x.p.size ≤ 1000; omega, ⟨by show _ ≤ x.f; omega, by show x.f ≤ _; omega⟩, ⟨by show _ ≤ x.b; omega, by show x.b ≤ _; omega⟩⟩, ⟨by show x.p.size ≤ 1000; omega, ⟨by show _ ≤ x.t; omega, by show x.t ≤ _; omega⟩, ⟨by show _ ≤ x.a; omega, by show x.a ≤ _; omega⟩⟩⟩
theorem mvErr_zero {c : Sh → Int} {x : Mo} (h : mvErr c x = 0) : moErr x = 0 ∧ ¬ (x.f ≠ -1 ∧ c (x.p, x.f, x.b) < x.n) ∧ manyB (mvC c x) = false := by
  unfold mvErr at h
  split at h
  · rename_i h1
    split at h
    · cases h
    · rename_i h2
      split at h
      · cases h
      · rename_i h3
        exact ⟨h1, h2, by simpa using h3⟩
  · rename_i h1
    exact absurd h h1
theorem mvC_fin {c : Sh → Int} {x : Mo} (hf : Fin_ c) (hp : x.p.size ≤ 30) (h : moErr x = 0) : Fin_ (mvC c x) := fun k hk => by
  obtain ⟨k1, k2⟩ := mv_key hp h
  by_cases e1 : k = (x.p, x.f, x.b)
  · rw [e1]; exact k1
  by_cases e2 : k = (x.p, x.t, x.a)
  · rw [e2]; exact k2
  refine hf k fun h0 => hk ?_
  have hmf : mvF c x k = 0 := by
    unfold mvF
    split
    · exact h0
    · unfold upd
      rw [if_neg e1, h0]
  unfold mvC
  split
  · exact hmf
  · unfold upd
    rw [if_neg e2, hmf]
theorem mvC_low {c : Sh → Int} {x : Mo} (hc : Pos8 c) (h : moErr x = 0) (hf : ¬ (x.f ≠ -1 ∧ c (x.p, x.f, x.b) < x.n)) : ∀ k, 0 ≤ mvC c x k ∧ mvC c x k ≤ 200000000000 := fun k => by
  obtain ⟨-, -, -, -, h1, h2⟩ := moR_iff (moErr_zero h).2.1
  have hk := hc k
  have hmf : 0 ≤ mvF c x k ∧ mvF c x k ≤ 100000000000 := by
    unfold mvF
    split
    · exact hk
    · rename_i hn
      unfold upd
      split
      · rename_i e
        subst e
        have : ¬ c (x.p, x.f, x.b) < x.n := fun hh => hf ⟨hn, hh⟩
        omega
      · exact hk
  unfold mvC
  split
  · omega
  · unfold upd
    split <;> omega
theorem mvC_pos {c : Sh → Int} {x : Mo} (hc : Pos8 c) (hf : Fin_ c) (hp : x.p.size ≤ 30) (h : mvErr c x = 0) : Pos8 (mvC c x) ∧ ∀ k, mvC c x k ≤ 1000000 := by
  obtain ⟨h1, h2, h3⟩ := mvErr_zero h
  have hm : ∀ k, mvC c x k ≤ 1000000 := fun k => by
    by_cases hk : mvC c x k = 0
    · omega
    · refine Int.not_lt.1 fun hlt => ?_
      rw [manyB_over (mvC_fin hf hp h1 k hk) hlt] at h3
      cases h3
  exact ⟨fun k => ⟨(mvC_low hc h1 h2 k).1, by have := hm k; omega⟩, hm⟩
/-- What the movements leave: the stock, or none. -/
def MvOut (c : Sh → Int) (ms : List Mo) (L : List Q4) : Prop := ((mvsR c ms).1 = 0 → NF L (mvsC c ms)) ∧ ((mvsR c ms).1 ≠ 0 → L = [])
theorem MvOut.one {c : Sh → Int} {ms : List Mo} {L M : List Q4} (h : MvOut c ms L) (h' : MvOut c ms M) : L = M := by
  by_cases h0 : (mvsR c ms).1 = 0
  · have a := h.1 h0
    have b := h'.1 h0
    exact nf_same a.asc b.asc a.nz b.nz fun k => (a.cnt k).trans (b.cnt k).symm
  · rw [h.2 h0, h'.2 h0]
theorem Rws.m6 {w : World} {B n c k : Nat} {A : Option Addr} {l : List Mo} (h : Rws Mo.cs 6 w B A n c l) (hk : k < n) : ∃ b o x, A = some ⟨b, o, none⟩ ∧ b < B ∧ l[k]? = some x ∧ w.cell? ⟨b, o + k * 6, none⟩ = some (.string x.p) ∧ w.cell? ⟨b, o + k * 6 + 1, none⟩ = some (.int .i64 x.f) ∧ w.cell? ⟨b, o + k * 6 + 2, none⟩ = some (.int .i64 x.t) ∧ w.cell? ⟨b, o + k * 6 + 3, none⟩ = some (.int .i64 x.b) ∧ w.cell? ⟨b, o + k * 6 + 4, none⟩ = some (.int .i64 x.a) ∧ w.cell? ⟨b, o + k * 6 + 5, none⟩ = some (.int .i64 x.n) := by
  obtain ⟨b, o, x, e, hb, hx, hc⟩ := h.at_ Mo.wide hk
  exact ⟨b, o, x, e, hb, hx, hc 0 _ rfl, hc 1 _ rfl, hc 2 _ rfl, hc 3 _ rfl, hc 4 _ rfl, hc 5 _ rfl⟩

end Go.Proofs.Ytmcefodfppdajaa
