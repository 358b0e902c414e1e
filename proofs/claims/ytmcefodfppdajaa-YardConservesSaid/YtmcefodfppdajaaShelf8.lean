/- Chapter 8, walks: shelves as keys, put, shelvesOf, areTooMany. -/
import Derived.Test.YtmcefodfppdajaaStock8
import Derived.Test.YtmcefodfppdajaaMapI8
import Derived.Test.YtmcefodfppdajaaLift
import Derived.Lib.SmallJoins
import Derived.RegionTactic
import Derived.Deep.RegionWith
namespace Go.Proofs.Ytmcefodfppdajaa
open Go.RowKit Go.Maps Go.Joins Go.ChangeShapes Go.WideShapes Go.Deep

def shV (t : Sh) : Value := .agg #[.string t.1, .int .i64 t.2.1, .int .i64 t.2.2]
def i64B (x : Int) : Prop := -9223372036854775808 ≤ x ∧ x ≤ 9223372036854775807
def shOk (t : Sh) : Prop := t.1.size ≤ 1000 ∧ i64B t.2.1 ∧ i64B t.2.2
theorem shV_inj {x y : Sh} (h : shV x = shV y) : x = y := by
  obtain ⟨a, b, c⟩ := x
  obtain ⟨d, e, f⟩ := y
  simpa [shV] using h
theorem sh_row : (114 : TypeId) < Try.prog.types.size := of_decide_eq_true (by kernel_rfl)
theorem sh_wide : (match Try.prog.underlying 114 with | some (.array _ _) | some (.struct _) => true | _ => false) = true := by rw [Try.underlying114]
theorem sh_deep : Try.prog.keyTypeAt (Try.prog.types.size + 1) 114 = true := by kernel_rfl
theorem sh_cells : Try.prog.cellsOf 114 = 3 := by kernel_rfl
theorem sh_fields : ∃ f0 f1 f2, Try.prog.underlying 114 = some (.struct #[f0, f1, f2]) ∧ oneCellFields Try.prog #[f0, f1, f2] = true ∧ f0.type = 9 ∧ f1.type = 3 ∧ f2.type = 3 := by
  exact ⟨(Try.prog.fieldsOf 114)[0]!, (Try.prog.fieldsOf 114)[1]!, (Try.prog.fieldsOf 114)[2]!, by kernel_rfl, by kernel_rfl, by kernel_rfl, by kernel_rfl, by kernel_rfl⟩
set_option maxRecDepth 100000 in
theorem sh_keyOf (t : Sh) (h : shOk t) (w : World) : ∃ l, keyOf Try.prog 114 (shV t) = some l := by
  obtain ⟨f0, f1, f2, hu, ho, t0, t1, t2⟩ := sh_fields
  have hf : (shV t).formed Try.prog 114 = true := by simp [Value.formed, shV, sh_cells, Try.underlying114]
  obtain ⟨m, hm⟩ := shut_string_cell (H := Unit) (enc := fun _ => ()) (P := Try.prog) (w := w) (base := 0) (spare := fun _ => true) (held := true) Try.underlying9 (s := t.1) (by have := h.1; unfold maxLen; omega)
  have hT := shut_agg3 (H := Unit) (enc := fun _ => ()) (P := Try.prog) (w := w) (base := 0) (spare := fun _ => true) (held := true) (v0 := .string t.1) (v1 := .int .i64 t.2.1) (v2 := .int .i64 t.2.2)
    (y0 := (.lit (.string t.1.data.toList), [])) (y1 := (.lit (.int .i64 t.2.1), [])) (y2 := (.lit (.int .i64 t.2.2), [])) hu ho sh_cells
    ⟨m, by rw [t0]; exact hm⟩ ⟨1, by rw [t1]; exact trod_int_mk 0 Try.underlying3 (WalkArith.wf_i64 h.2.1)⟩ ⟨1, by rw [t2]; exact trod_int_mk 0 Try.underlying3 (WalkArith.wf_i64 h.2.2)⟩
  exact ⟨_, (keyOf_asKey sh_deep sh_wide hf hT).1⟩
set_option maxRecDepth 100000 in
theorem sh_law : Go.WideMaps.KeyLaw Try.prog 114 := deep_law_laid Try.laidOut (m := 3) (by omega) sh_row (by kernel_rfl) sh_wide
theorem sh_keys (w : World) : KeyT Try.prog 114 shV shOk :=
  ⟨Keyed.of_law sh_law, fun x hx => by
    obtain ⟨l, hl⟩ := sh_keyOf x hx w
    unfold KL
    rw [hl]
    rfl, fun x y h => shV_inj h⟩
theorem zero_int (w : World) : (zeroValue 3).run Try.prog w = .ok (.int .i64 0) w := by kernel_rfl
/-- The shelves with these counts. -/
abbrev ShM (w : World) (b n : Nat) (c : Sh → Int) : Prop := IMap w Try.prog 114 3 shV shOk b n (nz c)
theorem upd_put (c : Sh → Int) (k : Sh) (m : Int) : (fun q => if q = k then some (c k + m) else nz c q) = fun q => if q = k then some (upd c k m q) else nz (upd c k m) q := by
  funext q
  by_cases h : q = k
  · subst h; simp [upd]
  · simp [h, upd, nz]
theorem Bk.three {w : World} {g t : Nat} {a b c : Value} (h : Bk w g t #[a, b, c]) : (w.cell? ⟨g, 0, none⟩ = some a ∧ w.cell? ⟨g, 1, none⟩ = some b ∧ w.cell? ⟨g, 2, none⟩ = some c) ∧ w.frozen? ⟨g, 0, none⟩ = false ∧ w.frozen? ⟨g, 1, none⟩ = false ∧ w.frozen? ⟨g, 2, none⟩ = false :=
  ⟨⟨h.cell 0, h.cell 1, h.cell 2⟩, h.frozen 0, h.frozen 1, h.frozen 2⟩
theorem put_nz {c : Sh → Int} {k : Sh} {m : Int} (h : c k + m ≠ 0) : (fun q => if q = k then some (c k + m) else nz c q) = nz (upd c k m) := by
  funext q
  by_cases hq : q = k
  · subst hq; simp [upd, nz, h]
  · simp [hq, upd, nz]
theorem del_nz {c : Sh → Int} {k : Sh} {m : Int} (h : c k + m = 0) : (fun q => if q = k then none else if q = k then some (c k + m) else nz c q) = nz (upd c k m) := by
  funext q
  by_cases hq : q = k
  · subst hq; simp [upd, nz, h]
  · simp [hq, upd, nz]
set_option maxRecDepth 100000 in
set_option maxHeartbeats 8000000 in
theorem put_any (b n : Nat) (c : Sh → Int) (s : ByteArray) (p t m : Int) (w : World) (h : ShM w b n c) (hk : shOk (s, p, t)) (hn : n < 1000000) (hwf : i64B (c (s, p, t) + m)) :
    Calls Try.prog 82 #[.map (some b), .agg #[.string s, .int .i64 p, .int .i64 t], .int .i64 m] w fun e w' => ShM w' b (n + 1) (upd c (s, p, t) m) ∧ w.grownBy w' (some b) ∧ e = .returned (.tuple #[]) := by
  have hlt := h.lt
  have H0 := Lib.hid h
  have HK := Lib.hid hk
  obtain ⟨x, hx⟩ : ∃ x, c (s, p, t) = x := ⟨_, rfl⟩
  have HX : Hid ((nz c (s, p, t)).getD 0 = x) := Lib.hid (by rw [nz_getD, hx])
  have HC := Lib.hid hx
  rw [hx] at hwf
  have hz1 : IntKind.i64.wrap (x + m) = x + m := IntWalk.i64_in _ hwf
  have HWF : Hid ((Lit.int .i64 (x + m)).wf = true) := Lib.hid (WalkArith.wf_i64 hwf)
  clear h hk hx
  obtain ⟨W0, hW0⟩ : ∃ W0, (w.alloc (.cells #[.string s, .int .i64 p, .int .i64 t] 114)).drew = W0 := ⟨_, rfl⟩
  have hb0 : Bk W0 w.heap.size 114 #[.string s, .int .i64 p, .int .i64 t] := by rw [← hW0]; exact Bk.drew (Bk.at_ rfl)
  have hm0 : ShM W0 b n c := by rw [← hW0]; exact (H0.out.alloc _).drew
  have hs0 : W0.heap.size = w.heap.size + 1 := by rw [← hW0]; show (w.alloc _).heap.size = _; simp
  have hg0 : w.grownBy W0 (some b) := by rw [← hW0]; exact (World.grownBy_alloc _ _ _).trans (grown_of_below ((Below.refl _ _).drew) |>.but _)
  obtain ⟨st, W1, e1, hp, hg1, hs1⟩ := hm0.entry (T := 110) (sh_keys w) sh_law Try.underlying110 Try.underlying3 zero_int (by unfold maxLen; omega) (s, p, t) HK.out
  rw [HX.out] at e1
  simp only [shV, goInt] at e1
  obtain ⟨W2, e2, hm2, hg2⟩ := hp.store (x + m) HWF.out W1 rfl
  simp only [goInt] at e2
  have e3 := hm0.look (sh_keys w) Try.underlying110 Try.underlying3 (zero_int _) HK.out
  have e4 := hp.look W1 rfl
  rw [HX.out] at e3 e4
  simp only [shV] at e3 e4
  have hb1 : Bk W1 w.heap.size 114 #[.string s, .int .i64 p, .int .i64 t] := (hg1.block _ (by omega) (by simp; omega)).trans hb0
  have hb2 : Bk W2 w.heap.size 114 #[.string s, .int .i64 p, .int .i64 t] := (hg2.block _ (by omega) (by simp; omega)).trans hb1
  obtain ⟨⟨u0, u1, u2⟩, -⟩ := hb0.three
  obtain ⟨⟨v0, v1, v2⟩, -⟩ := hb1.three
  obtain ⟨⟨y0, y1, y2⟩, -⟩ := hb2.three
  have e5 := hm2.look (sh_keys w) Try.underlying110 Try.underlying3 (zero_int _) HK.out
  simp only [if_true, Option.getD_some, shV] at e5
  have HM2 := Lib.hid hm2
  have HG : Hid (w.grownBy W2 (some b)) := Lib.hid ((hg0.trans hg1).trans hg2)
  clear hm0 hp hb0 hb1 hb2 hm2 hg0 hg1 hg2
  go_enter Try.func82, Try.ntmps82
  go_wp2
  go_region
  all_goals
    by_cases h0 : x + m = 0
    · have hq : (x + m == 0) = true := by simpa using h0
      have HE : Hid ((fun q => if q = (s, p, t) then none else if q = (s, p, t) then some (x + m) else nz c q) = nz (upd c (s, p, t) m)) := Lib.hid (by rw [← HC.out]; exact del_nz (by rw [HC.out]; exact h0))
      clear h0
      go_wp2_with (at_delete; refine wpList_del_i rfl _ _ rfl (sh_keys w) Try.underlying110 rfl HM2.out (s, p, t) HK.out rfl ?_; intro w3 hm3 ht3; have HM3 := Lib.hid hm3; have HT3 := Lib.hid ht3.grown; clear hm3 ht3)
      go_end0
      refine ⟨?_, HG.out.trans HT3.out, rfl⟩
      have := HM3.out
      rw [HE.out] at this
      exact this
    · have hq : (x + m == 0) = false := by simpa using h0
      have HE : Hid ((fun q => if q = (s, p, t) then some (x + m) else nz c q) = nz (upd c (s, p, t) m)) := Lib.hid (by rw [← HC.out]; exact put_nz (by rw [HC.out]; exact h0))
      clear h0
      go_wp2
      go_end0
      refine ⟨?_, HG.out, rfl⟩
      have := HM2.out
      rw [HE.out] at this
      exact this

theorem cntS_upd {l : List Q4} {i : Nat} {x : Q4} (h : l[i]? = some x) : upd (cntS (l.take i)) (keyQ x) x.c = cntS (l.take (i + 1)) := by
  funext q
  rw [cntS_step h, upd]
  by_cases hq : q = keyQ x
  · rw [if_pos hq, if_pos hq.symm]
  · rw [if_neg hq, if_neg (Ne.symm hq)]
    omega
theorem sE_sh {x : Q4} (h : sE x = 0) (hs : x.s.size ≤ 30) : shOk (x.s, x.a, x.b) ∧ 0 ≤ x.c ∧ x.c ≤ 1000000 := by
  obtain ⟨-, h2, h3, h4⟩ := sE_zero h
  rw [inR_iff] at h2 h3 h4
  exact ⟨⟨by show x.s.size ≤ 1000; omega, ⟨by show _ ≤ x.a; omega, by show x.a ≤ _; omega⟩, ⟨by show _ ≤ x.b; omega, by show x.b ≤ _; omega⟩⟩, h4⟩
set_option maxRecDepth 100000 in
set_option maxHeartbeats 8000000 in
theorem shelvesOf_any (A : Option Addr) (n ca : Nat) (l : List Q4) (w : World) (h : Rws Q4.cs 4 w w.heap.size A n ca l) (hs : ∀ x ∈ l, x.s.size ≤ 30) (hv : ∀ x ∈ l, sE x = 0) (hn : n ≤ 1000) :
    Calls Try.prog 53 #[.slice A n ca] w fun e w' => Below w.heap.size w w' ∧ e = .returned (.map (some w.heap.size)) ∧ ShM w' w.heap.size n (cntS l) := by
  have hcap := h.cap
  have hmax := h.max
  have HLEN := Lib.hid h.len
  have HS := Lib.hid hs
  have HV := Lib.hid hv
  have H : Hid (∀ w', Below w.heap.size w w' → Rws Q4.cs 4 w' w.heap.size A n ca l) := fun w' hb => h.below hb (Nat.le_refl _) (Nat.le_refl _)
  clear h hs hv
  have hmm := @run_makeMap Try.prog
  go_enter Try.func53, Try.ntmps53
  go_wp2
  go_loopw [5, 9] (fun _ i wr => ∃ k : Nat, k ≤ n ∧ i = .int .i64 k ∧ Hid (ShM wr w.heap.size k (cntS (l.take k))) ∧ Hid (Below w.heap.size w wr)) (fun _ i _ => n - (intOf i).toNat)
  case atStart => exact ⟨0, Nat.zero_le _, rfl, Lib.hid ((IMap.made w).same fun x => by simp [nz, cntS]), Lib.hid (by repeat (first | with_reducible exact Below.refl _ _ | with_reducible assumption | with_reducible refine Below.drew ?_ | with_reducible refine Below.drewN ?_ _ | with_reducible refine Below.alloc2 ?_ _ | with_reducible refine Below.alloc ?_ (by first | omega | (simp <;> omega)) _ | with_reducible refine Below.setCell ?_ (by first | omega | (simp <;> omega)) _ | with_reducible refine Below.step2 (by with_reducible assumption) ?_ | with_reducible refine Below.step (by with_reducible assumption) ?_ (by first | omega | (simp <;> omega))))⟩
  case round =>
    obtain ⟨k, hk, rfl, HM, HB⟩ := hrel
    have ow := HB.out.size
    have og := HM.out.lt
    by_cases hlt : k < n
    · obtain ⟨b, o, ⟨xs, xa, xb, xc⟩, rfl, hbb, hx, c0, c1, c2, c3⟩ := (H.out _ HB.out).q4 hlt
      dsimp only at c0 c1 c2 c3
      have hmem := List.mem_of_getElem? hx
      obtain ⟨hso, hc0, hc1⟩ := sE_sh (HV.out _ hmem) (HS.out _ hmem)
      have HSO := Lib.hid hso
      have hbd := cntS_bd (k := (xs, xa, xb)) (l := l.take k) fun y hy => (sE_sh (HV.out _ (List.mem_of_mem_take hy)) (HS.out _ (List.mem_of_mem_take hy))).2
      have hll : ((l.take k).length : Int) ≤ 1000 := by have := HLEN.out; simp; omega
      have HBD : Hid (i64B (cntS (l.take k) (xs, xa, xb) + xc)) := Lib.hid (by dsimp only at hc0 hc1; constructor <;> omega)
      have HU : Hid (upd (cntS (l.take k)) (xs, xa, xb) xc = cntS (l.take (k + 1))) := Lib.hid (cntS_upd hx)
      have ob : b < wr.heap.size := by omega
      clear hx hmem hso hbd hll
      go_wp2_with (go_at_call 82; with_reducible refine (put_any _ _ _ xs xa xb xc _ (HM.out.alloc _) HSO.out (by omega) HBD.out).mono ?_; rintro e w3 ⟨hm3, hg3, rfl⟩; rw [HU.out] at hm3; have HM3 := Lib.hid hm3; have HB3 : Hid (Below w.heap.size w w3) := Lib.hid (Below.grown_ (HB.out.alloc HB.out.size _) hg3 (by simp; omega) (fun q hq => by cases hq; omega)); clear hm3 hg3)
      go_roundw
      case rel => exact ⟨k + 1, by omega, by go_num, HM3, HB3⟩
      case measure => simp [intOf]; omega
    · have HE : Hid (cntS (l.take k) = cntS l) := Lib.hid (by rw [List.take_of_length_le (by rw [HLEN.out]; omega)])
      obtain rfl : k = n := by omega
      go_wp2
      go_ret
      have hm := HM.out
      rw [HE.out] at hm
      exact ⟨HB.out, rfl, hm⟩

end Go.Proofs.Ytmcefodfppdajaa
