/- Walks: one side of an outline; all sides. -/
import Derived.Test.YtbfbjpnmgcpjlaaArea
import Derived.RegionTactic
import Derived.IntWalk
import Derived.Deep.RegionHeld3
import Derived.Deep.RegionWith
import Derived.Deep.CutBlock
import Derived.Deep.DeepCutAuto
import Derived.Deep.LoopGhost
namespace Go.Proofs.Ytbfbjpnmgcpjlaa
open Go.RowKit

/-- The size of a difference. -/
def gap (a b : Int) : Int := max (a - b) (b - a)
/-- A side as six numbers: both ends, the length, the direction. -/
structure Side where
  x1 : Int
  y1 : Int
  x2 : Int
  y2 : Int
  len : Int
  dir : Int
deriving DecidableEq
def sideOf (p q : Int × Int) : Side := ⟨p.1, p.2, q.1, q.2, gap p.1 q.1 + gap p.2 q.2, dirP p q⟩
def Side.vals (s : Side) : Array Value := #[.int .i64 s.x1, .int .i64 s.y1, .int .i64 s.x2, .int .i64 s.y2, .int .i64 s.len, .int .i64 s.dir]

/-- Two points in new blocks, beside a side that is still empty. -/
def TwoPts (w : World) (g tp ts : Nat) (x y u v : Int) (P Q : Value) (wx : World) : Prop :=
  ∃ a b, P = .pointer (some ⟨a, 0, none⟩) ∧ Q = .pointer (some ⟨b, 0, none⟩) ∧ Bk wx a tp #[.int .i64 x, .int .i64 y] ∧ Bk wx b tp #[.int .i64 u, .int .i64 v] ∧
    Bk wx g ts #[.int .i64 0, .int .i64 0, .int .i64 0, .int .i64 0, .int .i64 0, .int .i64 0] ∧ g < a ∧ g < b ∧ Below g w wx

set_option maxHeartbeats 1000000 in
theorem sideAt_any (A : Option Addr) (n c k : Nat) (l : List (Int × Int)) (w : World) (h : Pts w w.heap.size A n c l) (hin : l.all inP = true) (hk : k < n) :
    Calls Try.prog 73 #[.slice A n c, .int .i64 (k : Int)] w fun e w' => Below w.heap.size w w' ∧ e = .returned (.agg (sideOf (pt l k) (pt l (nx l k))).vals) := by
  have hcap := h.cap
  have hmax := h.max
  have HLEN := Lib.hid h.len
  have hj : nx l k < n := by have := nx_lt (l := l) (k := k) (by rw [HLEN.out]; exact hk); rwa [HLEN.out] at this
  obtain ⟨b, o, x, y, rfl, hbb, hx, c0, c1⟩ := h.at_ hk
  obtain ⟨b', o', u, v, e, hbb', hu, c2, c3⟩ := h.at_ hj
  obtain ⟨rfl, rfl⟩ : b = b' ∧ o = o' := by simpa using e
  have hmod := nx_mod hk HLEN.out
  obtain ⟨⟨p11, p12⟩, p13, p14⟩ := pt_in hin hx
  obtain ⟨⟨p21, p22⟩, p23, p24⟩ := pt_in hin hu
  rw [pt_of hx, pt_of hu]
  have hn0 : ¬ n = 0 := by omega
  clear hx hu e h hin hbb'
  generalize nx l k = j at *
  go_enter Try.func73, Try.ntmps73
  go_upto_region 2 with (fail)
  go_cut [5, 6] (fun P Q wx => TwoPts w w.heap.size 57 59 x y u v P Q wx)
  case first =>
    go_wp2
    have hwm : (IntKind.i64.wrap ((k : Int) + 1)).tmod (n : Int) = (j : Int) := by
      rw [IntWalk.i64_in _ (by omega), Int.tmod_eq_emod_of_nonneg (by omega), hmod]
    have ob1 : b < w.heap.size + 1 := by omega
    have ob2 : b < w.heap.size + 1 + 1 := by omega
    go_region
    · go_wp2_with fail
      go_meet
      exact ⟨_, _, rfl, rfl, (by repeat (first | with_reducible assumption | with_reducible exact Bk.at_ (by simp) | with_reducible refine Bk.alloc ?_ _ | with_reducible refine Bk.drew ?_ | with_reducible refine Bk.drewN ?_ _ | with_reducible refine Bk.step (by with_reducible assumption) ?_ (by first | omega | (simp <;> omega)))), (by repeat (first | with_reducible assumption | with_reducible exact Bk.at_ (by simp) | with_reducible refine Bk.alloc ?_ _ | with_reducible refine Bk.drew ?_ | with_reducible refine Bk.drewN ?_ _ | with_reducible refine Bk.step (by with_reducible assumption) ?_ (by first | omega | (simp <;> omega)))), (by repeat (first | with_reducible assumption | with_reducible exact Bk.at_ (by simp) | with_reducible refine Bk.alloc ?_ _ | with_reducible refine Bk.drew ?_ | with_reducible refine Bk.drewN ?_ _ | with_reducible refine Bk.step (by with_reducible assumption) ?_ (by first | omega | (simp <;> omega)))), by omega, by omega, (by repeat (first | with_reducible exact Below.refl _ _ | with_reducible assumption | with_reducible refine Below.drew ?_ | with_reducible refine Below.drewN ?_ _ | with_reducible refine Below.alloc2 ?_ _ | with_reducible refine Below.alloc ?_ (by first | omega | (simp <;> omega)) _ | with_reducible refine Below.setCell ?_ (by first | omega | (simp <;> omega)) _ | with_reducible refine Below.step2 (by with_reducible assumption) ?_ | with_reducible refine Below.step (by with_reducible assumption) ?_ (by first | omega | (simp <;> omega))))⟩
    · go_wp2_with fail
      go_meet
      exact ⟨_, _, rfl, rfl, (by repeat (first | with_reducible assumption | with_reducible exact Bk.at_ (by simp) | with_reducible refine Bk.alloc ?_ _ | with_reducible refine Bk.drew ?_ | with_reducible refine Bk.drewN ?_ _ | with_reducible refine Bk.step (by with_reducible assumption) ?_ (by first | omega | (simp <;> omega)))), (by repeat (first | with_reducible assumption | with_reducible exact Bk.at_ (by simp) | with_reducible refine Bk.alloc ?_ _ | with_reducible refine Bk.drew ?_ | with_reducible refine Bk.drewN ?_ _ | with_reducible refine Bk.step (by with_reducible assumption) ?_ (by first | omega | (simp <;> omega)))), (by repeat (first | with_reducible assumption | with_reducible exact Bk.at_ (by simp) | with_reducible refine Bk.alloc ?_ _ | with_reducible refine Bk.drew ?_ | with_reducible refine Bk.drewN ?_ _ | with_reducible refine Bk.step (by with_reducible assumption) ?_ (by first | omega | (simp <;> omega)))), by omega, by omega, (by repeat (first | with_reducible exact Below.refl _ _ | with_reducible assumption | with_reducible refine Below.drew ?_ | with_reducible refine Below.drewN ?_ _ | with_reducible refine Below.alloc2 ?_ _ | with_reducible refine Below.alloc ?_ (by first | omega | (simp <;> omega)) _ | with_reducible refine Below.setCell ?_ (by first | omega | (simp <;> omega)) _ | with_reducible refine Below.step2 (by with_reducible assumption) ?_ | with_reducible refine Below.step (by with_reducible assumption) ?_ (by first | omega | (simp <;> omega))))⟩
  case rest =>
    obtain ⟨ga, gb, rfl, rfl, ka, kb, kr, hga, hgb, hbw⟩ := hcut
    have a0 : wc.cell? ⟨ga, 0, none⟩ = some (.int .i64 x) := by simpa using ka.cell 0
    have a1 : wc.cell? ⟨ga, 1, none⟩ = some (.int .i64 y) := by simpa using ka.cell 1
    have b0 : wc.cell? ⟨gb, 0, none⟩ = some (.int .i64 u) := by simpa using kb.cell 0
    have b1 : wc.cell? ⟨gb, 1, none⟩ = some (.int .i64 v) := by simpa using kb.cell 1
    have og := kr.lt
    have oa := ka.lt
    have ob := kb.lt
    have KR := Lib.hid kr
    have HBW := Lib.hid hbw
    have hs1 : IntKind.i64.wrap (x - u) = x - u := IntWalk.i64_in _ (by omega)
    have hs2 : IntKind.i64.wrap (u - x) = u - x := IntWalk.i64_in _ (by omega)
    have hs3 : IntKind.i64.wrap (y - v) = y - v := IntWalk.i64_in _ (by omega)
    have hs4 : IntKind.i64.wrap (v - y) = v - y := IntWalk.i64_in _ (by omega)
    have hs5 : IntKind.i64.wrap (max (x - u) (u - x) + max (y - v) (v - y)) = max (x - u) (u - x) + max (y - v) (v - y) := IntWalk.i64_in _ (by omega)
    have hcx : ∀ (W : World) (o j : Nat) (u : Value), (W.setCell ⟨w.heap.size, o, none⟩ u).cell? ⟨ga, j, none⟩ = W.cell? ⟨ga, j, none⟩ := (fun W o j u => World.cell?_setCell_other W _ _ u (fun e => by have := congrArg Addr.block e; simp at this; omega))
    have hcy : ∀ (W : World) (o j : Nat) (u : Value), (W.setCell ⟨w.heap.size, o, none⟩ u).cell? ⟨gb, j, none⟩ = W.cell? ⟨gb, j, none⟩ := (fun W o j u => World.cell?_setCell_other W _ _ u (fun e => by have := congrArg Addr.block e; simp at this; omega))
    clear ka kb kr hbw
    go_wp2_with fail
    go_region_held3 (fun w' => w'.cell? ⟨ga, 0, none⟩ = some (.int .i64 x) ∧ w'.cell? ⟨ga, 1, none⟩ = some (.int .i64 y) ∧ w'.cell? ⟨gb, 0, none⟩ = some (.int .i64 u) ∧ w'.cell? ⟨gb, 1, none⟩ = some (.int .i64 v)) (go_keep)
      (first
        | (go_at_call 83; refine (direction_any _ _ _ _ _).mono ?_; rintro e wd ⟨hbd, rfl⟩; obtain ⟨hcd, hfd⟩ := bcell hbd; have qa0 := (hcd ga 0 oa).trans a0; have qa1 := (hcd ga 1 oa).trans a1; have qb0 := (hcd gb 0 ob).trans b0; have qb1 := (hcd gb 1 ob).trans b1; have HBD := Lib.hid hbd; have kd := KR.out.below (Below.drew (Below.refl _ _) |>.trans hbd) og; obtain ⟨⟨q0, q1, q2, q3, q4, q5⟩, _, _, _, _, _, _⟩ := kd.six))
    all_goals
      go_wp2
      refine bodyPost_ret (v := .agg (sideOf (x, y) (u, v)).vals) (by simp [results, Try.results73, go_sem, sideOf, Side.vals, gap, q0, q1, q2, q3, q4, q5]) rfl ⟨?_, rfl⟩
      have hbw := HBW.out
      have hbd := HBD.out
      exact (by repeat (first | with_reducible exact Below.refl _ _ | with_reducible assumption | with_reducible refine Below.drew ?_ | with_reducible refine Below.drewN ?_ _ | with_reducible refine Below.alloc2 ?_ _ | with_reducible refine Below.alloc ?_ (by first | omega | (simp <;> omega)) _ | with_reducible refine Below.setCell ?_ (by first | omega | (simp <;> omega)) _ | with_reducible refine Below.step2 (by with_reducible assumption) ?_ | with_reducible refine Below.step (by with_reducible assumption) ?_ (by first | omega | (simp <;> omega))))

end Go.Proofs.Ytbfbjpnmgcpjlaa
