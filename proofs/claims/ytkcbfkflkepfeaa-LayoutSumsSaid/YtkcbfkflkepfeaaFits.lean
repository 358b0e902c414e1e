/- Walks: the predicate of (table).closing; slices.IndexFunc over parts. -/
import Derived.Test.YtkcbfkflkepfeaaTableOf
import Derived.Test.YtkcbfkflkepfeaaShelfB
namespace Go.Proofs.Ytkcbfkflkepfeaa
open Go.RowKit

/-- A part with units and a code as they must be. -/
abbrev FinePart := { p : Part // p.Fine }
instance : Inhabited FinePart := ⟨⟨⟨0, 1, 1, false⟩, by unfold Part.Fine; simp⟩⟩

set_option maxHeartbeats 4000000 in
theorem fits_one (PA TA : Option Addr) (pn pc tn tc : Nat) (u : Int) (T : List Int) (p : Part) (k g kb : Nat) (W : World) (hg : Bk W g 68 #[.int .i64 u, .slice PA pn pc, .slice TA tn tc]) (hkb : Bk W kb 3 #[.int .i64 (k : Int)]) (h : Ints W W.heap.size TA tn tc T) (hp : p.Fine) (hk : k < tn) (hk2 : k ≤ 4000) (hT : Codes T 1000000000) :
    Calls Try.prog 56 #[.agg #[.int .i64 p.len, .int .i64 p.units, .int .i64 p.code, .bool p.board], .pointer (some ⟨g, 0, none⟩), .pointer (some ⟨kb, 0, none⟩)] W fun e w' => Below W.heap.size W w' ∧ e = .returned (.bool (decide (codeAt T p k = T.getD k 0))) := by
  have hcap := h.nums.cap
  have hmax := h.nums.max
  have HCW : Hid (∀ w', Below W.heap.size W w' → Calls Try.prog 57 #[.agg #[.int .i64 u, .slice PA pn pc, .slice TA tn tc], .agg #[.int .i64 p.len, .int .i64 p.units, .int .i64 p.code, .bool p.board], .int .i64 (k : Int)] w' fun e w'' => Below w'.heap.size w' w'' ∧ e = .returned (.int .i64 (codeAt T p k))) := Lib.hid (fun w' hb => codeWith_any PA TA pn pc tn tc u T p k w' (h.below hb (Nat.le_refl _) hb.size) hp (by omega) hk2 hT)
  obtain ⟨b, o, y, rfl, hbb, hy, c0⟩ := h.nums.at_ hk
  rw [getD_of hy]
  obtain ⟨⟨a0, a1, a2⟩, f0, f1, f2⟩ := hg.three
  have k0 : W.cell? ⟨kb, 0, none⟩ = some (.int .i64 (k : Int)) := by simpa using hkb.cell 0
  have og := hg.lt
  have ok := hkb.lt
  have og1 : g < W.heap.size + 1 := by omega
  have ok1 : kb < W.heap.size + 1 := by omega
  have ob1 : b < W.heap.size + 1 := by omega
  have hkz : (k : Int) < (tn : Int) := by omega
  clear hg hkb h hp hy hT
  generalize codeAt T p k = cc at *
  by_cases hcy : cc = y
  · have hcb : (cc == y) = true := by simpa using hcy
    have hd : decide (cc = y) = true := by simpa using hcy
    rw [hd]
    clear hcy hd
    go_enter Try.func56, Try.ntmps56
    go_wp2
    go_region_held3 (fun w' => w'.cell? ⟨g, 0, none⟩ = some (.int .i64 u) ∧ w'.cell? ⟨g, 1, none⟩ = some (.slice PA pn pc) ∧ w'.cell? ⟨g, 2, none⟩ = some (.slice (some ⟨b, o, none⟩) tn tc) ∧ w'.cell? ⟨kb, 0, none⟩ = some (.int .i64 (k : Int)) ∧ w'.cell? ⟨b, o + k, none⟩ = some (.int .i64 y) ∧
        w'.cell? ⟨W.heap.size, 0, none⟩ = some (.int .i64 p.len) ∧ w'.cell? ⟨W.heap.size, 1, none⟩ = some (.int .i64 p.units) ∧ w'.cell? ⟨W.heap.size, 2, none⟩ = some (.int .i64 p.code) ∧ w'.cell? ⟨W.heap.size, 3, none⟩ = some (.bool p.board)) (go_keep)
      (first
        | (go_at_call 57; refine (HCW.out _ (by exact (by repeat (first | with_reducible exact Below.refl _ _ | with_reducible assumption | with_reducible refine Below.drew ?_ | with_reducible refine Below.drewN ?_ _ | with_reducible refine Below.alloc2 ?_ _ | with_reducible refine Below.alloc ?_ (by first | omega | (simp <;> omega)) _ | with_reducible refine Below.setCell ?_ (by first | omega | (simp <;> omega)) _ | with_reducible refine Below.step2 (by with_reducible assumption) ?_ | with_reducible refine Below.step (by with_reducible assumption) ?_ (by first | omega | (simp <;> omega)))))).mono ?_; rintro e w1 ⟨hb1, rfl⟩; have HB1 : Hid (Below W.heap.size W w1) := Lib.hid (by exact (by repeat (first | with_reducible exact Below.refl _ _ | with_reducible assumption | with_reducible refine Below.drew ?_ | with_reducible refine Below.drewN ?_ _ | with_reducible refine Below.alloc2 ?_ _ | with_reducible refine Below.alloc ?_ (by first | omega | (simp <;> omega)) _ | with_reducible refine Below.setCell ?_ (by first | omega | (simp <;> omega)) _ | with_reducible refine Below.step2 (by with_reducible assumption) ?_ | with_reducible refine Below.step (by with_reducible assumption) ?_ (by first | omega | (simp <;> omega))))); obtain ⟨hc1, hf1⟩ := bcell hb1; clear hb1))
    go_wp2
    go_ret
    have hb0 := HB1.out
    exact ⟨(by repeat (first | with_reducible exact Below.refl _ _ | with_reducible assumption | with_reducible refine Below.drew ?_ | with_reducible refine Below.drewN ?_ _ | with_reducible refine Below.alloc2 ?_ _ | with_reducible refine Below.alloc ?_ (by first | omega | (simp <;> omega)) _ | with_reducible refine Below.setCell ?_ (by first | omega | (simp <;> omega)) _ | with_reducible refine Below.step2 (by with_reducible assumption) ?_ | with_reducible refine Below.step (by with_reducible assumption) ?_ (by first | omega | (simp <;> omega)))), rfl⟩
  · have hcb : (cc == y) = false := by simpa using hcy
    have hd : decide (cc = y) = false := by simpa using hcy
    rw [hd]
    clear hcy hd
    go_enter Try.func56, Try.ntmps56
    go_wp2
    go_region_held3 (fun w' => w'.cell? ⟨g, 0, none⟩ = some (.int .i64 u) ∧ w'.cell? ⟨g, 1, none⟩ = some (.slice PA pn pc) ∧ w'.cell? ⟨g, 2, none⟩ = some (.slice (some ⟨b, o, none⟩) tn tc) ∧ w'.cell? ⟨kb, 0, none⟩ = some (.int .i64 (k : Int)) ∧ w'.cell? ⟨b, o + k, none⟩ = some (.int .i64 y) ∧
        w'.cell? ⟨W.heap.size, 0, none⟩ = some (.int .i64 p.len) ∧ w'.cell? ⟨W.heap.size, 1, none⟩ = some (.int .i64 p.units) ∧ w'.cell? ⟨W.heap.size, 2, none⟩ = some (.int .i64 p.code) ∧ w'.cell? ⟨W.heap.size, 3, none⟩ = some (.bool p.board)) (go_keep)
      (first
        | (go_at_call 57; refine (HCW.out _ (by exact (by repeat (first | with_reducible exact Below.refl _ _ | with_reducible assumption | with_reducible refine Below.drew ?_ | with_reducible refine Below.drewN ?_ _ | with_reducible refine Below.alloc2 ?_ _ | with_reducible refine Below.alloc ?_ (by first | omega | (simp <;> omega)) _ | with_reducible refine Below.setCell ?_ (by first | omega | (simp <;> omega)) _ | with_reducible refine Below.step2 (by with_reducible assumption) ?_ | with_reducible refine Below.step (by with_reducible assumption) ?_ (by first | omega | (simp <;> omega)))))).mono ?_; rintro e w1 ⟨hb1, rfl⟩; have HB1 : Hid (Below W.heap.size W w1) := Lib.hid (by exact (by repeat (first | with_reducible exact Below.refl _ _ | with_reducible assumption | with_reducible refine Below.drew ?_ | with_reducible refine Below.drewN ?_ _ | with_reducible refine Below.alloc2 ?_ _ | with_reducible refine Below.alloc ?_ (by first | omega | (simp <;> omega)) _ | with_reducible refine Below.setCell ?_ (by first | omega | (simp <;> omega)) _ | with_reducible refine Below.step2 (by with_reducible assumption) ?_ | with_reducible refine Below.step (by with_reducible assumption) ?_ (by first | omega | (simp <;> omega))))); obtain ⟨hc1, hf1⟩ := bcell hb1; clear hb1))
    go_wp2
    go_ret
    have hb0 := HB1.out
    exact ⟨(by repeat (first | with_reducible exact Below.refl _ _ | with_reducible assumption | with_reducible refine Below.drew ?_ | with_reducible refine Below.drewN ?_ _ | with_reducible refine Below.alloc2 ?_ _ | with_reducible refine Below.alloc ?_ (by first | omega | (simp <;> omega)) _ | with_reducible refine Below.setCell ?_ (by first | omega | (simp <;> omega)) _ | with_reducible refine Below.step2 (by with_reducible assumption) ?_ | with_reducible refine Below.step (by with_reducible assumption) ?_ (by first | omega | (simp <;> omega)))), rfl⟩

theorem idx_spec {α : Type} [Inhabited α] (p : α → Bool) (d : α) : ∀ (l : List α) (i : Nat), (∃ x ∈ l, p x = true) → ∃ (j : Nat) (x : α), l[j]? = some x ∧ p x = true ∧ Lib.idxByFrom (fun _ y => p y) d l i = ((i + j : Nat) : Int)
  | [], _, h => by simp at h
  | y :: l, i, h => by
    rcases hy : p y
    · obtain ⟨x, hx, hpx⟩ := h
      have hxl : x ∈ l := by
        rcases List.mem_cons.1 hx with rfl | hx
        · rw [hy] at hpx; cases hpx
        · exact hx
      obtain ⟨j, z, h1, h2, h3⟩ := idx_spec p d l (i + 1) ⟨x, hxl, hpx⟩
      refine ⟨j + 1, z, by simpa using h1, h2, ?_⟩
      simp only [Lib.idxByFrom, hy]
      rw [show (if false = true then ((i : Nat) : Int) else Lib.idxByFrom (fun _ y => p y) d l (i + 1)) = Lib.idxByFrom (fun _ y => p y) d l (i + 1) from rfl, h3]
      omega
    · exact ⟨0, y, rfl, hy, by simp [Lib.idxByFrom, hy]⟩

def fineList (ps : List Part) (hf : ∀ p ∈ ps, p.Fine) : List FinePart := ps.attach.map fun q => ⟨q.1, hf q.1 q.2⟩
theorem fineList_get (ps : List Part) (hf : ∀ p ∈ ps, p.Fine) (j : Nat) : ((fineList ps hf)[j]?).map Subtype.val = ps[j]? := by
  unfold fineList
  rw [List.getElem?_map, Option.map_map]
  by_cases hj : j < ps.length
  · rw [List.getElem?_eq_getElem (by simpa using hj), List.getElem?_eq_getElem hj]
    simp
  · rw [List.getElem?_eq_none (by simp; omega), List.getElem?_eq_none (by omega)]
    rfl
theorem fineList_length (ps : List Part) (hf : ∀ p ∈ ps, p.Fine) : (fineList ps hf).length = ps.length := by simp [fineList]

set_option maxHeartbeats 1000000 in
theorem index_parts (PA TA : Option Addr) (pn pc tn tc : Nat) (u : Int) (T : List Int) (ps : List Part) (k g kb : Nat) (w : World) (hps : PartsAt w w.heap.size PA pn pc ps) (hf : ∀ p ∈ ps, p.Fine) (hg : Bk w g 68 #[.int .i64 u, .slice PA pn pc, .slice TA tn tc]) (hkb : Bk w kb 3 #[.int .i64 (k : Int)]) (h : Ints w w.heap.size TA tn tc T) (hk : k < tn) (hk2 : k ≤ 4000) (hT : Codes T 1000000000) (hex : ∃ p ∈ ps, codeAt T p k = T.getD k 0) :
    Calls Try.prog 55 #[.slice PA pn pc, .func (.func 56) #[] #[.pointer (some ⟨g, 0, none⟩), .pointer (some ⟨kb, 0, none⟩)]] w fun e w' => Below w.heap.size w w' ∧ ∃ (j : Nat) (q : Part), e = .returned (.int .i64 (j : Int)) ∧ ps[j]? = some q ∧ codeAt T q k = T.getD k 0 := by
  have hlen := hps.len
  have hcap := hps.cap
  have hmax := hps.max
  have hn : 0 < pn := by
    obtain ⟨p, hp, -⟩ := hex
    rw [← hlen]
    exact List.length_pos_of_mem hp
  obtain ⟨b, o, rfl, hb, hc⟩ := hps.sl.cells (by omega)
  have hzl : (fineList ps hf).length = pn := by rw [fineList_length, hlen]
  refine (Try.slices_IndexFunc_parts (α := FinePart) (fun x => x.1.cells) (fun x => rfl) (fun x => decide (codeAt T x.1 k = T.getD k 0)) 56 #[.pointer (some ⟨g, 0, none⟩), .pointer (some ⟨kb, 0, none⟩)] (enters_of Try.func56 (by kernel_rfl) rfl) b o pn pc (fineList ps hf) w ?_ (by omega) (by omega) hb ?_).mono ?_
  · intro W x hbW
    obtain ⟨p, hp⟩ := x
    refine (fits_one (some ⟨b, o, none⟩) TA pn pc tn tc u T p k g kb W (hg.below hbW hg.lt) (hkb.below hbW hkb.lt) (h.below hbW (Nat.le_refl _) hbW.size) hp hk hk2 hT).mono ?_
    rintro e w' ⟨h1, h2⟩
    exact ⟨h2, hbW.trans (h1.mono hbW.size)⟩
  · intro j hj i v hv
    have hj' : j < ps.length := by rw [fineList_length] at hj; exact hj
    have e1 : (fineList ps hf)[j]!.1 = ps[j] := by
      have := fineList_get ps hf j
      rw [List.getElem?_eq_getElem hj, List.getElem?_eq_getElem hj'] at this
      have h3 : (fineList ps hf)[j]! = (fineList ps hf)[j]'hj := getElem!_pos (fineList ps hf) j hj
      rw [h3]
      exact Option.some.inj this
    have hv' : (ps[j]).cells[i]? = some v := by rw [← e1]; exact hv
    have hi : i < 4 := (List.getElem?_eq_some_iff.1 hv').1
    have hcell : (ptcells ps)[j * 4 + i]? = some v := by
      obtain ⟨g0, g1, g2, g3⟩ := ptcells_get ps j ps[j] (List.getElem?_eq_getElem hj')
      match i, hi with
      | 0, _ => rw [Nat.add_zero, g0]; exact hv'
      | 1, _ => rw [g1]; exact hv'
      | 2, _ => rw [g2]; exact hv'
      | 3, _ => rw [g3]; exact hv'
    have := hc (j * 4 + i) v hcell
    rw [← Nat.add_assoc] at this
    exact this
  · rintro e w' ⟨rfl, hbw⟩
    have hex' : ∃ x ∈ (fineList ps hf).take pn, (fun x : FinePart => decide (codeAt T x.1 k = T.getD k 0)) x = true := by
      obtain ⟨p, hp, hpc⟩ := hex
      refine ⟨⟨p, hf p hp⟩, ?_, by simpa using hpc⟩
      rw [List.take_of_length_le (by omega)]
      exact List.mem_map.2 ⟨⟨p, hp⟩, List.mem_attach _ _, rfl⟩
    obtain ⟨j, x, h1, h2, h3⟩ := idx_spec (fun x : FinePart => decide (codeAt T x.1 k = T.getD k 0)) default _ 0 hex'
    refine ⟨hbw, j, x.1, ?_, ?_, by simpa using h2⟩
    · show Ending.returned (.int .i64 (Lib.idxByFrom _ default _ 0)) = _
      rw [h3, Nat.zero_add]
    · rw [List.take_of_length_le (by omega)] at h1
      rw [← fineList_get ps hf j, h1]
      rfl

end Go.Proofs.Ytkcbfkflkepfeaa
