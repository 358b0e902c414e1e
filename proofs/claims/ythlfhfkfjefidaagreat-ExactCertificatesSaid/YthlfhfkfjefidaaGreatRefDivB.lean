/- The walk of Divide of the reference. -/
import Derived.Test.YthlfhfkfjefidaaGreatSmaG
import Derived.Test.YthlfhfkfjefidaaGreatLinG
namespace Go.Proofs.YthlfhfkfjefidaaGreat
open Go.RowKit
def DivCut (w : World) (s1 s2 : Bool) (A1 A2 : Option Addr) (n1 c1 n2 c2 : Nat) (x y : Int) (K1 K2 : Nat) (v P : Value) (wx : World) : Prop :=
 ∃ A7 m c7 ca g8 s8 A8 n8 c8, v = .slice A7 m c7 ∧ P = .pointer (some ⟨g8, 0, none⟩) ∧ w.heap.size + 3 < g8 ∧ m ≤ 2 * K1 ∧
  Below w.heap.size w wx ∧ Bk wx w.heap.size 24 #[.bool s1, .slice A1 n1 c1] ∧ Bk wx (w.heap.size + 1) 24 #[.bool s2, .slice A2 n2 c2] ∧ Bk wx (w.heap.size + 1 + 1) 24 #[.bool false, .slice none 0 0] ∧ Bk wx (w.heap.size + 1 + 1 + 1) 24 #[.bool false, .slice none 0 0] ∧
  Bk wx g8 24 #[.bool s8, .slice A8 n8 c8] ∧ IntH wx s8 A8 n8 c8 (y.natAbs : Int) K2 true ∧ NumsH wx A7 m c7 ca ∧ valc ca = (x.natAbs : Int) ∧ (∀ z ∈ ca, 0 ≤ z ∧ z < 65536)
theorem Nums.past {w : World} {B n c : Nat} {A : Option Addr} {l : List Int} (h : Nums w B A n c l) {g t : Nat} {x : Bool} {y1 : Option Addr} {y2 y3 : Nat} (hb : Bk w g t #[.bool x, .slice y1 y2 y3]) (u v : Value) :
 Nums ((w.setCell ⟨g, 0, none⟩ u).setCell ⟨g, 1, none⟩ v) B A n c l := by
 refine ⟨⟨h.sl.len, h.sl.cap, h.sl.max, fun hn => ?_⟩⟩
 obtain ⟨b, o, x0, e, hbb, hx0, hc0⟩ := h.at_ (k := 0) hn
 obtain ⟨b', o', e', _, hc⟩ := h.sl.cells hn
 rw [e] at e'
 simp only [Option.some.injEq, Addr.mk.injEq, and_true] at e'
 obtain ⟨rfl, rfl⟩ := e'
 have hne : g ≠ b := by
  rintro rfl
  rw [Nat.add_zero, hb.cell] at hc0
  match o, hc0 with
  | 0, h => simp at h
  | 1, h => simp at h
  | k + 2, h => simp at h
 refine ⟨b, o, e, hbb, fun k u' hu => ?_⟩
 rw [World.cell?_setCell_other _ _ _ _ (fun h => hne (congrArg Addr.block h)), World.cell?_setCell_other _ _ _ _ (fun h => hne (congrArg Addr.block h))]
 exact hc k u' hu
theorem below_drew {w w' : World} (h : Below w.drew.heap.size w.drew w') : Below w.heap.size w w' := ((Below.refl _ _).drew).trans h
theorem W_grow {a K K' : Nat} (h : a < W K) (hk : K ≤ K') : a < W K' := Nat.lt_of_lt_of_le h (W_mono hk)
theorem NumsH.cell {w0 w : World} {p o n c k : Nat} {l : List Int} {x : Int} (h : NumsH w0 (some ⟨p, o, none⟩) n c l) (hb : Below w0.heap.size w0 w) (hx : l[k]? = some x) : w.cell? ⟨p, o + k, none⟩ = some (.int .i64 x) := by
 have hk : k < n := by have := (List.getElem?_eq_some_iff.1 hx).1; rw [(h.all w hb).len] at this; exact this
 obtain ⟨b, o', x', e, -, hx', hc⟩ := (h.all w hb).at_ hk
 simp only [Option.some.injEq, Addr.mk.injEq, and_true] at e
 obtain ⟨rfl, rfl⟩ := e
 rw [hx] at hx'
 obtain rfl : x = x' := by simpa using hx'
 exact hc
theorem NumsH.past {w : World} {n c : Nat} {A : Option Addr} {l : List Int} (h : NumsH w A n c l) {g t : Nat} {x : Bool} {y1 : Option Addr} {y2 y3 : Nat} (hb : Bk w g t #[.bool x, .slice y1 y2 y3]) (u v : Value) :
 NumsH ((w.setCell ⟨g, 0, none⟩ u).setCell ⟨g, 1, none⟩ v) A n c l :=
 ⟨fun w' hb' => (((h.all w (Below.refl _ _)).past hb u v).mono (B' := ((w.setCell ⟨g, 0, none⟩ u).setCell ⟨g, 1, none⟩ v).heap.size) (by simp [World.setCell])).below hb' (Nat.le_refl _) hb'.size⟩
theorem Bk.duoset {w : World} {g t : Nat} {a b : Value} (h : Bk w g t #[a, b]) (u v : Value) : Bk ((w.setCell ⟨g, 0, none⟩ u).setCell ⟨g, 1, none⟩ v) g t #[u, v] := by
 have := (h.set_ 0 u).set_ 1 v
 simpa using this
theorem Bk.two {w : World} {g b t : Nat} {cs : Array Value} (h : Bk w b t cs) (hne : b ≠ g) (u v : Value) : Bk ((w.setCell ⟨g, 0, none⟩ u).setCell ⟨g, 1, none⟩ v) b t cs := (h.other hne _).other hne _
section
variable {w w6 : World} {s1 s2 : Bool} {A1 A2 : Option Addr} {n1 c1 n2 c2 : Nat} {x y : Int} {K1 K2 : Nat} {A7 : Option Addr} {m c7 : Nat} {ca : List Int} {g : Nat} {s8 : Bool} {A8 : Option Addr} {n8 c8 : Nat}
theorem DivCut.set (hb : Below w.heap.size w w6) (kx : Bk w6 w.heap.size 24 #[.bool s1, .slice A1 n1 c1]) (ky : Bk w6 (w.heap.size + 1) 24 #[.bool s2, .slice A2 n2 c2]) (kr : Bk w6 (w.heap.size + 1 + 1) 24 #[.bool false, .slice none 0 0]) (ks : Bk w6 (w.heap.size + 1 + 1 + 1) 24 #[.bool false, .slice none 0 0])
 (hg : w.heap.size + 3 < g) (kg : Bk w6 g 24 #[.bool false, .slice none 0 0]) (i8 : IntH w6 s8 A8 n8 c8 (y.natAbs : Int) K2 true) (i7 : NumsH w6 A7 m c7 ca) (hm : m ≤ 2 * K1) (hv : valc ca = (x.natAbs : Int)) (hd : ∀ z ∈ ca, 0 ≤ z ∧ z < 65536) :
 DivCut w s1 s2 A1 A2 n1 c1 n2 c2 x y K1 K2 (.slice A7 m c7) (.pointer (some ⟨g, 0, none⟩)) ((w6.setCell ⟨g, 0, none⟩ (.bool s8)).setCell ⟨g, 1, none⟩ (.slice A8 n8 c8)) :=
 ⟨A7, m, c7, ca, g, s8, A8, n8, c8, rfl, rfl, hg, hm, (hb.setCell (by simp; omega) _).setCell (by simp; omega) _, kx.two (by omega) _ _, ky.two (by omega) _ _, kr.two (by omega) _ _, ks.two (by omega) _ _, kg.duoset _ _, i8.past kg _ _, i7.past kg _ _, hv, hd⟩
theorem DivCut.new (hb : Below w.heap.size w w6) (kx : Bk w6 w.heap.size 24 #[.bool s1, .slice A1 n1 c1]) (ky : Bk w6 (w.heap.size + 1) 24 #[.bool s2, .slice A2 n2 c2]) (kr : Bk w6 (w.heap.size + 1 + 1) 24 #[.bool false, .slice none 0 0]) (ks : Bk w6 (w.heap.size + 1 + 1 + 1) 24 #[.bool false, .slice none 0 0])
 (i8 : IntH w6 s8 A8 n8 c8 (y.natAbs : Int) K2 true) (i7 : NumsH w6 A7 m c7 ca) (hm : m ≤ 2 * K1) (hv : valc ca = (x.natAbs : Int)) (hd : ∀ z ∈ ca, 0 ≤ z ∧ z < 65536) :
 DivCut w s1 s2 A1 A2 n1 c1 n2 c2 x y K1 K2 (.slice A7 m c7) (.pointer (some ⟨w6.heap.size, 0, none⟩)) (w6.alloc (.cells #[.bool s8, .slice A8 n8 c8] 24)) :=
 have hl := ks.lt
 ⟨A7, m, c7, ca, _, s8, A8, n8, c8, rfl, rfl, by omega, hm, hb.alloc hb.size _, kx.alloc _, ky.alloc _, kr.alloc _, ks.alloc _, Bk.alloc_ _ _ _, i8.later ((Below.refl _ _).alloc (Nat.le_refl _) _), i7.later ((Below.refl _ _).alloc (Nat.le_refl _) _), hv, hd⟩
end
theorem size_cols {s : Bool} {l : List Nat} {z : Nat} (hb : Bd l) (hz : (z : Int) = sg s (val l)) (hn : Norm l ∧ (s = true → 0 < l.length)) : valc (cols s l) = (z : Int) ∧ ∀ u ∈ cols s l, 0 ≤ u ∧ u < 65536 := by
 have hs : s = false := by
  cases s
  · rfl
  · exfalso
    have h1 := hn.2 rfl
    have h2 := norm_val_pos hn.1 (fun e => by subst e; simp at h1)
    rw [sg_true] at hz
    omega
 subst hs
 refine ⟨by rw [valc_cols, hz], fun u hu => ?_⟩
 have h1 := cols_bd false l hb u hu
 rcases cols_sign false l with h | h
 · exact ⟨h u hu, h1.2⟩
 · refine ⟨?_, h1.2⟩
   have : ∀ (l : List Nat) (u : Int), u ∈ cols false l → 0 ≤ u := fun l => by
    induction l with
    | nil => simp [cols]
    | cons x r ih =>
      intro y hy
      simp only [cols, List.mem_cons, sgn] at hy
      rcases hy with rfl | rfl | h
      · simp; omega
      · simp; omega
      · exact ih y h
   exact this l u hu
theorem set_farI {g b : Nat} (h : b ≠ g) (W : World) (o o' : Nat) (u : Value) : (W.setCell ⟨g, o, none⟩ u).cell? ⟨b, o', none⟩ = W.cell? ⟨b, o', none⟩ := World.cell?_setCell_other _ _ _ _ (fun e => h (congrArg Addr.block e).symm)
structure FinD (x y Q R : Int) : Prop where
 same : ((x < 0) ↔ (y < 0)) → x / y = Q
 other : ¬ ((x < 0) ↔ (y < 0)) → x / y = -Q
 rest : x % y = R
theorem fin_of {x y Q R : Int} (hy : ¬ y = 0) (hQ : Q = (x.natAbs : Int) / (y.natAbs : Int)) (hR : R = (x.natAbs : Int) % (y.natAbs : Int)) : (0 ≤ x ∨ R = 0 → FinD x y Q R) ∧ (x < 0 → 0 < R → FinD x y (Q + 1) ((y.natAbs : Int) - R)) := by
 obtain ⟨a1, a2, a3, a4, a5, a6⟩ := div_signs rfl rfl hy hQ hR
 constructor
 · intro h
   rcases Int.lt_or_le x 0 with hx | hx
   · have h0 : R = 0 := by omega
     rcases Int.lt_or_le y 0 with h2 | h2
     · exact ⟨fun _ => (a4 hx h0 h2).1, fun h => absurd ⟨fun _ => h2, fun _ => hx⟩ h, (a4 hx h0 h2).2⟩
     · exact ⟨fun h => absurd (h.1 hx) (by omega), fun _ => (a3 hx h0 (by omega)).1, (a3 hx h0 (by omega)).2⟩
   · rcases Int.lt_or_le y 0 with h2 | h2
     · exact ⟨fun h => absurd (h.2 h2) (by omega), fun _ => (a2 hx h2).1, (a2 hx h2).2⟩
     · exact ⟨fun _ => (a1 hx (by omega)).1, fun h => absurd ⟨fun h => absurd h (by omega), fun h => absurd h (by omega)⟩ h, (a1 hx (by omega)).2⟩
 · intro hx h0
   rcases Int.lt_or_le y 0 with h2 | h2
   · exact ⟨fun _ => (a6 hx h0 h2).1, fun h => absurd ⟨fun _ => h2, fun _ => hx⟩ h, (a6 hx h0 h2).2⟩
   · exact ⟨fun h => absurd (h.1 hx) (by omega), fun _ => (a5 hx h0 (by omega)).1, (a5 hx h0 (by omega)).2⟩
theorem div_tight {x y : Int} {K : Nat} (h : x.natAbs < W K) : (x / y).natAbs < W (K + 1) := by
 have h3 := div_abs x y
 have h4 := W_pos K
 rw [W_succ]
 omega
theorem settledH (A : Option Addr) (n c : Nat) (l : List Int) (K : Nat) (w : World) (hl : Nums w w.heap.size A n c l) (hn : n ≤ 5000) (hb : ∀ y ∈ l, -1152921504606846976 ≤ y ∧ y ≤ 1152921504606846976) (hz : (valc l).natAbs < W K) :
 Calls Tryz.prog 59 #[.slice A n c] w (MakesInt (valc l) K w) := (settled_any A n c l w hl hn hb).mono fun _ _ h => makes_of h hz
section
variable {w w1 w2 : World} {s1 s2 : Bool} {A1 A2 : Option Addr} {n1 c1 n2 c2 : Nat} {x y : Int} {K1 K2 : Nat} {f1 f2 : Bool}
set_option maxRecDepth 100000 in
set_option maxHeartbeats 16000000 in
theorem rdivH (h1 : IntH w1 s1 A1 n1 c1 x K1 f1) (h2 : IntH w2 s2 A2 n2 c2 y K2 f2) (b1 : Below w1.heap.size w1 w) (b2 : Below w2.heap.size w2 w) (k1 : K1 ≤ 200) (k2 : K2 ≤ 200) :
 Calls Tryz.prog 21 #[.agg #[.bool s1, .slice A1 n1 c1], .agg #[.bool s2, .slice A2 n2 c2]] w fun e w' => Below w.heap.size w w' ∧
  ((y = 0 ∧ e = .returned (.tuple #[.agg #[.bool false, .slice none 0 0], .agg #[.bool false, .slice none 0 0], .int .i64 9])) ∨
   (y ≠ 0 ∧ ∃ s A n c s' A' n' c', e = .returned (.tuple #[.agg #[.bool s, .slice A n c], .agg #[.bool s', .slice A' n' c'], .int .i64 0]) ∧ IntH w' s A n c (x / y) (K1 + 1) true ∧ IntH w' s' A' n' c' (x % y) K2 true)) := by
 by_cases hy : y = 0
 · have HY := Lib.hid hy
   have hC : cmpI y 0 = 0 := cmpI_eq hy
   clear hy
   go_enter Tryz.func21, Tryz.ntmps21
   go_wp2_with (go_at_call 69; go_loud (with_reducible refine (rsignH h2 ?_ hC).mono ?_; (focus (exact bl)); rintro e w3 ⟨hbw3, rfl⟩; obtain ⟨W0, hW⟩ : ∃ W, W = ((((w.alloc (.cells #[.bool s1, .slice A1 n1 c1] 24)).alloc (.cells #[.bool s2, .slice A2 n2 c2] 24)).alloc (.cells #[.bool false, .slice none 0 0] 24)).alloc (.cells #[.bool false, .slice none 0 0] 24)) := ⟨_, rfl⟩; have hbW : Below w.heap.size w W0 := (by rw [hW]; exact bl); have kx : Bk W0 w.heap.size 24 #[.bool s1, .slice A1 n1 c1] := (by rw [hW]; exact bk); have ky : Bk W0 (w.heap.size + 1) 24 #[.bool s2, .slice A2 n2 c2] := (by rw [hW]; exact bk); have kr : Bk W0 (w.heap.size + 1 + 1) 24 #[.bool false, .slice none 0 0] := (by rw [hW]; exact bk); have ks : Bk W0 (w.heap.size + 1 + 1 + 1) 24 #[.bool false, .slice none 0 0] := (by rw [hW]; exact bk); rw [← hW] at hbw3; have ozW : w.heap.size + 4 ≤ W0.heap.size := (by rw [hW]; simp); clear hW; obtain ⟨a0, a1⟩ := kx.duo; obtain ⟨a2, a3⟩ := ky.duo; have qx : Bk w3 w.heap.size 24 #[.bool s1, .slice A1 n1 c1] := bk; have qy : Bk w3 (w.heap.size + 1) 24 #[.bool s2, .slice A2 n2 c2] := bk; have qr : Bk w3 (w.heap.size + 1 + 1) 24 #[.bool false, .slice none 0 0] := bk; have qs : Bk w3 (w.heap.size + 1 + 1 + 1) 24 #[.bool false, .slice none 0 0] := bk; clear kx ky kr ks a0 a1 a2 a3; have kx := qx; have ky := qy; have kr := qr; have ks := qs; clear qx qy qr qs; have ox := kx.lt; have oy := ky.lt; have or := kr.lt; have os := ks.lt; obtain ⟨a0, a1⟩ := kx.duo; obtain ⟨a2, a3⟩ := ky.duo; have ozw3 := hbw3.size; (try simp at ozw3); obtain ⟨r0, r1⟩ := kr.duo; obtain ⟨t0, t1⟩ := ks.duo; have fr0 := kr.frozen 0; have fr1 := kr.frozen 1; have ft0 := ks.frozen 0; have ft1 := ks.frozen 1; have HBW : Hid (Below w.heap.size w w3) := Lib.hid bl))
   refine bodyPost_ret (v := .tuple #[.agg #[.bool false, .slice none 0 0], .agg #[.bool false, .slice none 0 0], .int .i64 9]) (by simp [results, Tryz.results21, go_sem, r0, r1, t0, t1]) rfl ?_
   exact ⟨(((HBW.out.setCell (by first | (simp; done) | (simp; omega) | omega) _).setCell (by first | (simp; done) | (simp; omega) | omega) _).setCell (by first | (simp; done) | (simp; omega) | omega) _).setCell (by first | (simp; done) | (simp; omega) | omega) _, .inl ⟨HY.out, rfl⟩⟩
 · obtain ⟨C, hC⟩ : ∃ C, cmpI y 0 = C := ⟨_, rfl⟩
   have hC0 : ¬ C = 0 := by
    rw [← hC]
    rcases Int.lt_trichotomy y 0 with h | h | h
    · rw [cmpI_lt h]; omega
    · exact absurd h hy
    · rw [cmpI_gt h]; omega
   have hCb : (C == 0) = false := by simpa using hC0
   go_enter Tryz.func21, Tryz.ntmps21
   go_upto_region 3 with (go_at_call 69; go_loud (with_reducible refine (rsignH h2 ?_ hC).mono ?_; (focus (exact bl)); rintro e w3 ⟨hbw3, rfl⟩; obtain ⟨W0, hW⟩ : ∃ W, W = ((((w.alloc (.cells #[.bool s1, .slice A1 n1 c1] 24)).alloc (.cells #[.bool s2, .slice A2 n2 c2] 24)).alloc (.cells #[.bool false, .slice none 0 0] 24)).alloc (.cells #[.bool false, .slice none 0 0] 24)) := ⟨_, rfl⟩; have hbW : Below w.heap.size w W0 := (by rw [hW]; exact bl); have kx : Bk W0 w.heap.size 24 #[.bool s1, .slice A1 n1 c1] := (by rw [hW]; exact bk); have ky : Bk W0 (w.heap.size + 1) 24 #[.bool s2, .slice A2 n2 c2] := (by rw [hW]; exact bk); have kr : Bk W0 (w.heap.size + 1 + 1) 24 #[.bool false, .slice none 0 0] := (by rw [hW]; exact bk); have ks : Bk W0 (w.heap.size + 1 + 1 + 1) 24 #[.bool false, .slice none 0 0] := (by rw [hW]; exact bk); rw [← hW] at hbw3; have ozW : w.heap.size + 4 ≤ W0.heap.size := (by rw [hW]; simp); clear hW; obtain ⟨a0, a1⟩ := kx.duo; obtain ⟨a2, a3⟩ := ky.duo; have qx : Bk w3 w.heap.size 24 #[.bool s1, .slice A1 n1 c1] := bk; have qy : Bk w3 (w.heap.size + 1) 24 #[.bool s2, .slice A2 n2 c2] := bk; have qr : Bk w3 (w.heap.size + 1 + 1) 24 #[.bool false, .slice none 0 0] := bk; have qs : Bk w3 (w.heap.size + 1 + 1 + 1) 24 #[.bool false, .slice none 0 0] := bk; clear kx ky kr ks a0 a1 a2 a3; have kx := qx; have ky := qy; have kr := qr; have ks := qs; clear qx qy qr qs; have ox := kx.lt; have oy := ky.lt; have or := kr.lt; have os := ks.lt; obtain ⟨a0, a1⟩ := kx.duo; obtain ⟨a2, a3⟩ := ky.duo; have ozw3 := hbw3.size; (try simp at ozw3)))
   go_cut [7, 8] (fun v P wx => DivCut w s1 s2 A1 A2 n1 c1 n2 c2 x y K1 K2 v P wx)
   case first =>
    --#a
    go_region_held3 (fun w' => (w'.cell? ⟨w.heap.size, 0, none⟩ = some (.bool s1) ∧ w'.cell? ⟨w.heap.size, 1, none⟩ = some (.slice A1 n1 c1)) ∧ w'.cell? ⟨w.heap.size + 1, 0, none⟩ = some (.bool s2) ∧ w'.cell? ⟨w.heap.size + 1, 1, none⟩ = some (.slice A2 n2 c2)) (go_keep) (first
     | (go_at_call 70; go_loud (with_reducible refine (rsizeH h1 ?_ (by omega)).mono ?_; (focus (exact bl)); rintro e w4 ⟨hbw4, s4, A4, n4, c4, rfl, i4⟩; obtain ⟨ll, gl, hzx, hnf⟩ := i4.lim; have hli := i4.len; have qx : Bk w4 w.heap.size 24 #[.bool s1, .slice A1 n1 c1] := bk; have qy : Bk w4 (w.heap.size + 1) 24 #[.bool s2, .slice A2 n2 c2] := bk; have qr : Bk w4 (w.heap.size + 1 + 1) 24 #[.bool false, .slice none 0 0] := bk; have qs : Bk w4 (w.heap.size + 1 + 1 + 1) 24 #[.bool false, .slice none 0 0] := bk; clear kx ky kr ks a0 a1 a2 a3; have kx := qx; have ky := qy; have kr := qr; have ks := qs; clear qx qy qr qs; have ox := kx.lt; have oy := ky.lt; have or := kr.lt; have os := ks.lt; obtain ⟨a0, a1⟩ := kx.duo; obtain ⟨a2, a3⟩ := ky.duo; have ozw4 := hbw4.size; (try simp at ozw4); (try (rcases (Classical.em (Bk w4 w3.heap.size 24 #[.bool false, .slice none 0 0])) with g4 | g4; rotate_left; (focus (refine absurd ?_ g4; (repeat (first | with_reducible assumption | with_reducible exact Bk.at_ (by first | (simp; done) | omega) | with_reducible refine Bk.alloc ?_ _ | with_reducible refine Bk.drew ?_ | with_reducible refine Bk.drewN ?_ _ | with_reducible refine Bk.step (by with_reducible assumption) ?_ (by first | omega | (simp <;> omega)))); done))))))
     | (go_at_call 55; go_loud (with_reducible refine (columnsH (LimA.of gl (Below.refl _ _)) ?_ (by omega)).mono ?_; (focus (exact bl)); rintro e w5 ⟨hbw5, A5, c5, rfl, i5⟩; have qx : Bk w5 w.heap.size 24 #[.bool s1, .slice A1 n1 c1] := bk; have qy : Bk w5 (w.heap.size + 1) 24 #[.bool s2, .slice A2 n2 c2] := bk; have qr : Bk w5 (w.heap.size + 1 + 1) 24 #[.bool false, .slice none 0 0] := bk; have qs : Bk w5 (w.heap.size + 1 + 1 + 1) 24 #[.bool false, .slice none 0 0] := bk; clear kx ky kr ks a0 a1 a2 a3; have kx := qx; have ky := qy; have kr := qr; have ks := qs; clear qx qy qr qs; have ox := kx.lt; have oy := ky.lt; have or := kr.lt; have os := ks.lt; obtain ⟨a0, a1⟩ := kx.duo; obtain ⟨a2, a3⟩ := ky.duo; have ozw5 := hbw5.size; (try simp at ozw5); (try (rcases (Classical.em (Bk w5 w3.heap.size 24 #[.bool false, .slice none 0 0])) with g5 | g5; rotate_left; (focus (refine absurd ?_ g5; (repeat (first | with_reducible assumption | with_reducible exact Bk.at_ (by first | (simp; done) | omega) | with_reducible refine Bk.alloc ?_ _ | with_reducible refine Bk.drew ?_ | with_reducible refine Bk.drewN ?_ _ | with_reducible refine Bk.step (by with_reducible assumption) ?_ (by first | omega | (simp <;> omega)))); done)))); (try (rcases (Classical.em (Bk w5 w4.heap.size 24 #[.bool false, .slice none 0 0])) with g5 | g5; rotate_left; (focus (refine absurd ?_ g5; (repeat (first | with_reducible assumption | with_reducible exact Bk.at_ (by first | (simp; done) | omega) | with_reducible refine Bk.alloc ?_ _ | with_reducible refine Bk.drew ?_ | with_reducible refine Bk.drewN ?_ _ | with_reducible refine Bk.step (by with_reducible assumption) ?_ (by first | omega | (simp <;> omega)))); done))))))
     | (go_at_call 70; go_loud (with_reducible refine (rsizeH h2 ?_ (by omega)).mono ?_; (focus (exact bl)); rintro e w6 ⟨hbw6, s6, A6, n6, c6, rfl, i6⟩; have qx : Bk w6 w.heap.size 24 #[.bool s1, .slice A1 n1 c1] := bk; have qy : Bk w6 (w.heap.size + 1) 24 #[.bool s2, .slice A2 n2 c2] := bk; have qr : Bk w6 (w.heap.size + 1 + 1) 24 #[.bool false, .slice none 0 0] := bk; have qs : Bk w6 (w.heap.size + 1 + 1 + 1) 24 #[.bool false, .slice none 0 0] := bk; clear kx ky kr ks a0 a1 a2 a3; have kx := qx; have ky := qy; have kr := qr; have ks := qs; clear qx qy qr qs; have ox := kx.lt; have oy := ky.lt; have or := kr.lt; have os := ks.lt; obtain ⟨a0, a1⟩ := kx.duo; obtain ⟨a2, a3⟩ := ky.duo; have ozw6 := hbw6.size; (try simp at ozw6); (try (rcases (Classical.em (Bk w6 w3.heap.size 24 #[.bool false, .slice none 0 0])) with g6 | g6; rotate_left; (focus (refine absurd ?_ g6; (repeat (first | with_reducible assumption | with_reducible exact Bk.at_ (by first | (simp; done) | omega) | with_reducible refine Bk.alloc ?_ _ | with_reducible refine Bk.drew ?_ | with_reducible refine Bk.drewN ?_ _ | with_reducible refine Bk.step (by with_reducible assumption) ?_ (by first | omega | (simp <;> omega)))); done)); obtain ⟨u0, u1⟩ := g6.duo; have fu0 := g6.frozen 0; have fu1 := g6.frozen 1; have gl6 := g6.lt; have e1 := set_farI (g := w3.heap.size) (b := w.heap.size) (by omega); have e2 := set_farI (g := w3.heap.size) (b := w.heap.size + 1) (by omega))); (try (rcases (Classical.em (Bk w6 w4.heap.size 24 #[.bool false, .slice none 0 0])) with g6 | g6; rotate_left; (focus (refine absurd ?_ g6; (repeat (first | with_reducible assumption | with_reducible exact Bk.at_ (by first | (simp; done) | omega) | with_reducible refine Bk.alloc ?_ _ | with_reducible refine Bk.drew ?_ | with_reducible refine Bk.drewN ?_ _ | with_reducible refine Bk.step (by with_reducible assumption) ?_ (by first | omega | (simp <;> omega)))); done)); obtain ⟨u0, u1⟩ := g6.duo; have fu0 := g6.frozen 0; have fu1 := g6.frozen 1; have gl6 := g6.lt; have e1 := set_farI (g := w4.heap.size) (b := w.heap.size) (by omega); have e2 := set_farI (g := w4.heap.size) (b := w.heap.size + 1) (by omega))); (try (rcases (Classical.em (Bk w6 w5.heap.size 24 #[.bool false, .slice none 0 0])) with g6 | g6; rotate_left; (focus (refine absurd ?_ g6; (repeat (first | with_reducible assumption | with_reducible exact Bk.at_ (by first | (simp; done) | omega) | with_reducible refine Bk.alloc ?_ _ | with_reducible refine Bk.drew ?_ | with_reducible refine Bk.drewN ?_ _ | with_reducible refine Bk.step (by with_reducible assumption) ?_ (by first | omega | (simp <;> omega)))); done)); obtain ⟨u0, u1⟩ := g6.duo; have fu0 := g6.frozen 0; have fu1 := g6.frozen 1; have gl6 := g6.lt; have e1 := set_farI (g := w5.heap.size) (b := w.heap.size) (by omega); have e2 := set_farI (g := w5.heap.size) (b := w.heap.size + 1) (by omega))))))
    all_goals
     have i7 : NumsH w6 A5 (2 * n4) c5 (cols s4 ll) := i5.later bl
     have hBW : Below w.heap.size w w6 := bl
     have hq := size_cols (s := s4) (l := ll) (z := x.natAbs) (gl w4 (Below.refl _ _)).bd hzx (by have h := hnf (by trivial); rw [(gl w4 (Below.refl _ _)).len]; exact h)
     have HKX := Lib.hid kx
     have HKY := Lib.hid ky
     have HKR := Lib.hid kr
     have HKS := Lib.hid ks
     have HQ := Lib.hid hq
     clear hq hzx
     go_wp2_with fail
     go_meet
     first
      | exact DivCut.new hBW HKX.out HKY.out HKR.out HKS.out i6 i7 (by omega) HQ.out.1 HQ.out.2
      | exact DivCut.set hBW HKX.out HKY.out HKR.out HKS.out (by omega) g6 i6 i7 (by omega) HQ.out.1 HQ.out.2
    --#enda
   case rest =>
    obtain ⟨A7, m, c7, ca, g8, s8, A8, n8, c8, rfl, rfl, hg8, hm, hb, kx, ky, kr, ks, kb, i8, i7, hv, hd⟩ := hcut
    obtain ⟨wq, hwq⟩ : ∃ x, x = wc := ⟨_, rfl⟩
    subst hwq
    clear hbw3 a0 a1 a2 a3 hbW ozW
    have q1 := (i7.all wq (Below.refl _ _)).cap
    have q2 := (i7.all wq (Below.refl _ _)).max
    have HLA := Lib.hid (i7.all wq (Below.refl _ _)).len
    have HV := Lib.hid hv
    have HD := Lib.hid hd
    obtain ⟨i0, hi0, hz0, hz1, hz2⟩ := info_parts info_int1
    have HI0 := Lib.hid hi0
    have HZ0 := Lib.hid hz0
    have HZ1 := Lib.hid hz1
    have HZ2 := Lib.hid hz2
    clear hi0 hz0 hz1 hz2 hv hd
    go_wp2
    go_loopw [9, 11, 12, 13] (fun v i _ _ wr => ∃ (j q : Nat) (qs : List Int) (R : Int) (sr : Bool) (Ar : Option Addr) (nr cr : Nat), i = .int .i64 ((j : Int) - 1) ∧ DivI ca (y.natAbs : Int) j qs R ∧ qs.length = q ∧ wr.ownsRow (wq.heap.size + 1) 3 1 v q (i64s qs) ∧ Bk wr wq.heap.size 24 #[.bool sr, .slice Ar nr cr] ∧ IntH wr sr Ar nr cr R K2 true ∧ Below wq.heap.size wq wr) (fun _ i _ _ _ => (intOf i + 1).toNat)
    case atStart =>
     refine ⟨m, 0, [], 0, false, none, 0, 0, rfl, ?_, rfl, World.ownsRow_nil _ _ _ _, Bk.alloc_ _ _ _, (IntH.nil_ _).tight (by simpa using W_pos K2), (Below.refl _ _).alloc (Nat.le_refl _) _⟩
     have h := DivI.start (ca := ca) (b := (y.natAbs : Int)) (by omega)
     rwa [HLA.out] at h
    case round =>
     obtain ⟨j, q, qs, R, sr, Ar, nr, cr, rfl, hI, hq, hown, hk9, iR, hbr⟩ := hrel
     obtain ⟨wo, hwo⟩ : ∃ x, x = wr := ⟨_, rfl⟩
     subst hwo
     obtain ⟨Aq, cq, rfl, -⟩ := Nums.of_own hown
     have HI := Lib.hid hI
     have HQ := Lib.hid hq
     have HOWN := Lib.hid hown
     have ow := hbr.size
     have og := hk9.lt
     clear hI hq hown
     rcases Nat.eq_zero_or_pos j with h0 | h0
     · subst h0
       have hD := HI.out.done
       rw [HV.out] at hD
       have hlo := HI.out.lo
       have hhi := HI.out.hi
       have HDB := Lib.hid HI.out.bd
       have hN := Nums.own HOWN.out
       have HN := Lib.hid hN
       have hqq : q ≤ 2 * K1 := by have h := HI.out.len; rw [HLA.out, HQ.out] at h; omega
       have hax := h1.abs
       have hQK : (valc qs).natAbs < W K1 := by
        rw [hD.1]
        have h := Nat.div_le_self x.natAbs y.natAbs
        have e : (x.natAbs : Int) / (y.natAbs : Int) = ((x.natAbs / y.natAbs : Nat) : Int) := rfl
        rw [e, Int.natAbs_natCast]
        exact Nat.lt_of_le_of_lt h hax
       have HF := Lib.hid (fin_of (x := x) hy hD.1 hD.2)
       have HQK := Lib.hid hQK
       obtain ⟨Qv, hQv⟩ : ∃ Qv, valc qs = Qv := ⟨_, rfl⟩
       have HSET := Lib.hid (settledH Aq q cq qs K1 wo hN (by omega) (fun z hz => by have := HDB.out z hz; omega) hQK)
       rw [hQv] at HSET HF HQK
       have hlb := kb.lt
       have hlr := ks.lt
       have KX : Hid (∀ w', Below wq.heap.size wq w' → Bk w' w.heap.size 24 #[.bool s1, .slice A1 n1 c1] ∧ Bk w' (w.heap.size + 1) 24 #[.bool s2, .slice A2 n2 c2] ∧ Bk w' (w.heap.size + 1 + 1) 24 #[.bool false, .slice none 0 0] ∧ Bk w' (w.heap.size + 1 + 1 + 1) 24 #[.bool false, .slice none 0 0] ∧ Bk w' g8 24 #[.bool s8, .slice A8 n8 c8]) := Lib.hid fun w' hb' => ⟨kx.below hb' (by omega), ky.below hb' (by omega), kr.below hb' (by omega), ks.below hb' (by omega), kb.below hb' (by omega)⟩
       have HB0 := Lib.hid hb
       have HBR := Lib.hid hbr
       have HK9 := Lib.hid hk9
       have HIR := Lib.hid iR
       have HI8 := Lib.hid i8
       clear hD hax hQK hQv hN kx ky kr ks kb hb hbr hk9 iR i8 i7
       go_upto_region 19 with (go_at_call 59; go_loud (with_reducible refine HSET.out.mono ?_; rintro e wa ⟨hba, sQ, AQ, nQ, cQ, rfl, iQ⟩))
       obtain ⟨g14, hg14⟩ : ∃ g, wa.heap.size = g := ⟨_, rfl⟩
       obtain ⟨W1, hW1⟩ : ∃ W, W = wa.alloc (.cells #[.bool sQ, .slice AQ nQ cQ] 24) := ⟨_, rfl⟩
       have hba2 : Below wo.heap.size wo W1 := by rw [hW1]; exact hba.alloc hba.size _
       have hbq : Below wq.heap.size wq W1 := below_to HBR.out hba2 ow
       have k9 : Bk W1 wq.heap.size 24 #[.bool sr, .slice Ar nr cr] := HK9.out.below hba2 og
       have k14 : Bk W1 g14 24 #[.bool sQ, .slice AQ nQ cQ] := by rw [hW1]; exact Bk.at_ hg14
       have iQ1 : IntH W1 sQ AQ nQ cQ Qv (K1 + 4) true := by rw [hW1]; exact (iQ.later ((Below.refl _ _).alloc (Nat.le_refl _) _)).tight (W_grow HQK.out (by omega))
       have iR1 : IntH W1 sr Ar nr cr R K2 true := HIR.out.later hba2
       have i81 : IntH W1 s8 A8 n8 c8 (y.natAbs : Int) K2 true := HI8.out.later hbq
       have og14 : wq.heap.size < g14 := by have := hba.size; omega
       rw [hg14, ← hW1]
       clear hW1 hg14 hba hba2 iQ
       have KA : Hid (∀ w', Below W1.heap.size W1 w' → Bk w' w.heap.size 24 #[.bool s1, .slice A1 n1 c1] ∧ Bk w' (w.heap.size + 1) 24 #[.bool s2, .slice A2 n2 c2] ∧ Bk w' (w.heap.size + 1 + 1) 24 #[.bool false, .slice none 0 0] ∧ Bk w' (w.heap.size + 1 + 1 + 1) 24 #[.bool false, .slice none 0 0] ∧ Bk w' g8 24 #[.bool s8, .slice A8 n8 c8] ∧ Bk w' wq.heap.size 24 #[.bool sr, .slice Ar nr cr] ∧ Bk w' g14 24 #[.bool sQ, .slice AQ nQ cQ] ∧ Below w.heap.size w w') := Lib.hid fun w' hb' => by
        have h1 := below_to hbq hb' hbq.size
        obtain ⟨p1, p2, p3, p4, p5⟩ := KX.out w' h1
        exact ⟨p1, p2, p3, p4, p5, k9.below hb' k9.lt, k14.below hb' k14.lt, below_to HB0.out h1 HB0.out.size⟩
       have HIQ := Lib.hid iQ1
       have HIR1 := Lib.hid iR1
       have HI81 := Lib.hid i81
       have HBQ := Lib.hid hbq
       have hB1 : ∀ w', Below w.heap.size w w' → Below w1.heap.size w1 w' := fun w' hb' => below_to b1 hb' b1.size
       have hB2 : ∀ w', Below w.heap.size w w' → Below w2.heap.size w2 w' := fun w' hb' => below_to b2 hb' b2.size
       have HB1 := Lib.hid hB1
       have HB2 := Lib.hid hB2
       obtain ⟨q1', q2', q3', q4', q5', q6', q7', q8'⟩ := KA.out W1 (Below.refl _ _)
       obtain ⟨x0, x1⟩ := q1'.duo
       obtain ⟨z0, z1⟩ := q6'.duo
       clear k9 k14 iQ1 iR1 i81 hbq hB1 hB2 q1' q2' q3' q4' q5' q6' q7' q8'
       rcases Int.lt_or_le x 0 with hx | hx
       · obtain ⟨C1, hC1⟩ : ∃ C1, cmpI x 0 = C1 := ⟨_, rfl⟩
         have hn1 : C1 < 0 := by rw [← hC1, cmpI_lt hx]; omega
         have hd1 : decide (C1 < 0) = true := by simpa using hn1
         obtain ⟨C2, hC2⟩ : ∃ C2, cmpI R 0 = C2 := ⟨_, rfl⟩
         rcases Int.lt_or_le 0 R with hR | hR
         · have hn2 : 0 < C2 := by rw [← hC2, cmpI_gt hR]; omega
           have HFD0 := Lib.hid (HF.out.2 hx hR)
           go_upto_region 20 with (first
            | (go_at_call 69; with_reducible refine (rsignH h1 (HB1.out _ (KA.out _ (Below.refl _ _)).2.2.2.2.2.2.2) hC1).mono ?_; rintro e wu ⟨hbu, rfl⟩; obtain ⟨z2, z3⟩ := (KA.out wu hbu).2.2.2.2.2.1.duo; have HBU := Lib.hid hbu; clear hbu)
            | (go_at_call 69; go_loud (with_reducible refine (rsignH HIR1.out HBU.out hC2).mono ?_; rintro e wv ⟨hbv, rfl⟩; have hbv2 := below_to HBU.out hbv HBU.out.size; have HBV := Lib.hid hbv2; clear hbv hbv2)))
           obtain ⟨-, -, -, -, p5, p6, p7, -⟩ := KA.out wv HBV.out
           obtain ⟨a0, a1⟩ := p7.duo
           obtain ⟨a2, a3⟩ := p5.duo
           obtain ⟨a4, a5⟩ := p6.duo
           clear p5 p6 p7
           refine region_goes (n := 8) (fun w' => w'.cell? ⟨g14, 0, none⟩ = some (.bool sQ) ∧ w'.cell? ⟨g14, 1, none⟩ = some (.slice AQ nQ cQ) ∧ w'.cell? ⟨g8, 0, none⟩ = some (.bool s8) ∧ w'.cell? ⟨g8, 1, none⟩ = some (.slice A8 n8 c8) ∧ w'.cell? ⟨wq.heap.size, 0, none⟩ = some (.bool sr) ∧ w'.cell? ⟨wq.heap.size, 1, none⟩ = some (.slice Ar nr cr)) [6, 7] (by kernel_rfl) rfl ?_
           refine goes_takeE (i := 0) (E := [2, 5, 6, 7]) (v := .agg #[.bool sQ, .slice AQ nQ cQ]) rfl (by kernel_rfl) rfl (fun _ _ _ h => h) (by intro w' hw'; obtain ⟨y0, y1, y2, y3, y4, y5⟩ := hw'; go_simp) ⟨a0, a1, a2, a3, a4, a5⟩ ?_
           refine goes_takeE (i := 3) (E := [5, 6, 7]) (v := .agg #[.bool s8, .slice A8 n8 c8]) rfl (by kernel_rfl) rfl (fun _ _ _ h => h) (by intro w' hw'; obtain ⟨y0, y1, y2, y3, y4, y5⟩ := hw'; go_simp) ⟨a0, a1, a2, a3, a4, a5⟩ ?_
           refine goes_takeE (i := 4) (E := [5, 6, 7]) (v := .agg #[.bool sr, .slice Ar nr cr]) rfl (by kernel_rfl) rfl (fun _ _ _ h => h) (by intro w' hw'; obtain ⟨y0, y1, y2, y3, y4, y5⟩ := hw'; go_simp) ⟨a0, a1, a2, a3, a4, a5⟩ ?_
           refine goes_call (i := 1) rfl (by kernel_rfl) ?_
           go_wp2_with (go_at_call 13; go_loud (with_reducible refine (rofH 1 _ (by omega) (by omega)).mono ?_; rintro e wa ⟨hba, sa, Aa, na, cca, rfl, ia⟩; have hBa := below_to HBV.out (below_drew hba) HBV.out.size; obtain ⟨-, -, -, -, p5, p6, p7, -⟩ := KA.out wa hBa; obtain ⟨u0, u1⟩ := p7.duo; obtain ⟨u2, u3⟩ := p5.duo; obtain ⟨u4, u5⟩ := p6.duo; have HBa := Lib.hid hBa; have HIA := Lib.hid ia; clear hba hBa ia p5 p6 p7))
           refine behind_ok ⟨⟨u0, u1, u2, u3, u4, u5⟩, ?_⟩
           refine goes_call (i := 2) rfl (by kernel_rfl) ?_
           go_wp2_with (go_at_call 15; go_loud (with_reducible refine (rsumH HIQ.out HIA.out HBa.out (Below.refl _ _) (by omega) (by omega)).mono ?_; rintro e wb ⟨hbb, sM, AM, nM, cM, rfl, ib⟩; have hBb := below_to HBa.out hbb HBa.out.size; obtain ⟨-, -, -, -, p5, p6, p7, -⟩ := KA.out wb hBb; obtain ⟨v0, v1⟩ := p7.duo; obtain ⟨v2, v3⟩ := p5.duo; obtain ⟨v4, v5⟩ := p6.duo; have HBb := Lib.hid hBb; have HIB := Lib.hid ib; clear hbb hBb ib p5 p6 p7))
           refine behind_ok ⟨⟨v0, v1, v2, v3, v4, v5⟩, ?_⟩
           refine goes_call (i := 5) rfl (by kernel_rfl) ?_
           go_wp2_with (go_at_call 17; go_loud (with_reducible refine (rdiffH HI81.out HIR1.out HBb.out HBb.out (by omega) (by omega)).mono ?_; rintro e wd ⟨hbd, sN, AN, nN, cN, rfl, id⟩; have hBd := below_to HBb.out hbd HBb.out.size; have hk := KA.out wd hBd; obtain ⟨t0, t1⟩ := hk.2.2.2.2.2.2.1.duo; obtain ⟨t2, t3⟩ := hk.2.2.2.2.1.duo; obtain ⟨t4, t5⟩ := hk.2.2.2.2.2.1.duo; have f0 := hk.2.2.2.2.2.2.1.frozen 0; have f1' := hk.2.2.2.2.2.2.1.frozen 1; have HKD := Lib.hid hk; have HBd := Lib.hid hBd; have HIM := Lib.hid (HIB.out.later hbd); have HIN := Lib.hid id; clear hbd hBd id hk))
           refine behind_ok ⟨⟨t0, t1, t2, t3, t4, t5⟩, ?_⟩
           refine goes_last (i := 6) rfl (by kernel_rfl) (by kernel_rfl) ?_
           clear a0 a1 a2 a3 a4 a5 u0 u1 u2 u3 u4 u5 v0 v1 v2 v3 v4 v5
           go_wp2_with fail
           obtain ⟨d1, d2, d3, d4, d5, d6, d7, d8⟩ := HKD.out
           have lo8 : g8 < wq.heap.size := hlb
           have lo5 := hlr
           have e1 := d1.two (g := g14) (by omega) (.bool sM) (.slice AM nM cM)
           have e2 := d2.two (g := g14) (by omega) (.bool sM) (.slice AM nM cM)
           have e3 := d3.two (g := g14) (by omega) (.bool sM) (.slice AM nM cM)
           have e4 := d4.two (g := g14) (by omega) (.bool sM) (.slice AM nM cM)
           have e5 := d5.two (g := g14) (by omega) (.bool sM) (.slice AM nM cM)
           have e6 := d6.two (g := g14) (by omega) (.bool sM) (.slice AM nM cM)
           have e7 := d7.duoset (.bool sM) (.slice AM nM cM)
           have e8 : Below w.heap.size w ((wd.setCell ⟨g14, 0, none⟩ (.bool sM)).setCell ⟨g14, 1, none⟩ (.slice AM nM cM)) := (d8.setCell (by simp; omega) _).setCell (by simp; omega) _
           have eM := HIM.out.past d7 (.bool sM) (.slice AM nM cM)
           have eN := HIN.out.past d7 (.bool sM) (.slice AM nM cM)
           clear d1 d2 d3 d4 d5 d6 d7 d8 t0 t1 t2 t3 t4 t5 f0 f1'
           generalize ((wd.setCell ⟨g14, 0, none⟩ (.bool sM)).setCell ⟨g14, 1, none⟩ (.slice AM nM cM)) = V at e1 e2 e3 e4 e5 e6 e7 e8 eM eN ⊢
           refine behind_ok ?_
           refine goes_last (i := 7) rfl (by kernel_rfl) (by kernel_rfl) ?_
           obtain ⟨t4, t5⟩ := e6.duo
           have f0 := e6.frozen 0
           have f1' := e6.frozen 1
           have HE := Lib.hid (And.intro e1 (And.intro e2 (And.intro e3 (And.intro e4 (And.intro e5 (And.intro e6 (And.intro e7 e8)))))))
           have HEM := Lib.hid eM
           have HEN := Lib.hid eN
           clear e1 e2 e3 e4 e5 e6 e7 e8 eM eN
           go_wp2_with fail
           obtain ⟨d1, d2, d3, d4, d5, d6, d7, d8⟩ := HE.out
           have e1 := d1.two (g := wq.heap.size) (by omega) (.bool sN) (.slice AN nN cN)
           have e2 := d2.two (g := wq.heap.size) (by omega) (.bool sN) (.slice AN nN cN)
           have e3 := d3.two (g := wq.heap.size) (by omega) (.bool sN) (.slice AN nN cN)
           have e4 := d4.two (g := wq.heap.size) (by omega) (.bool sN) (.slice AN nN cN)
           have e5 := d5.two (g := wq.heap.size) (by omega) (.bool sN) (.slice AN nN cN)
           have e7 := d7.two (g := wq.heap.size) (by omega) (.bool sN) (.slice AN nN cN)
           have e6 := d6.duoset (.bool sN) (.slice AN nN cN)
           have e8 : Below w.heap.size w ((V.setCell ⟨wq.heap.size, 0, none⟩ (.bool sN)).setCell ⟨wq.heap.size, 1, none⟩ (.slice AN nN cN)) := (d8.setCell (by simp; omega) _).setCell (by simp; omega) _
           have eM := HEM.out.past d6 (.bool sN) (.slice AN nN cN)
           have eN := HEN.out.past d6 (.bool sN) (.slice AN nN cN)
           clear d1 d2 d3 d4 d5 d6 d7 d8 t4 t5 f0 f1'
           generalize ((V.setCell ⟨wq.heap.size, 0, none⟩ (.bool sN)).setCell ⟨wq.heap.size, 1, none⟩ (.slice AN nN cN)) = wv at e1 e2 e3 e4 e5 e6 e7 e8 eM eN ⊢
           refine behind_ok (goes_done (by kernel_rfl) ?_)
           have hyK := HI81.out.abs
           have iQ2 : IntH wv sM AM nM cM (Qv + 1) (K1 + 4) true := eM.tight (by
            have h := HQK.out
            have h2 : W K1 < W (K1 + 1) := by have := W_pos K1; rw [W_succ]; omega
            have h3 : W (K1 + 1) ≤ W (K1 + 4) := W_mono (by omega)
            omega)
           have iR2 : IntH wv sN AN nN cN ((y.natAbs : Int) - R) K2 true := eN.tight (by omega)
           have KA : Hid (∀ w', Below wv.heap.size wv w' → Bk w' w.heap.size 24 #[.bool s1, .slice A1 n1 c1] ∧ Bk w' (w.heap.size + 1) 24 #[.bool s2, .slice A2 n2 c2] ∧ Bk w' (w.heap.size + 1 + 1) 24 #[.bool false, .slice none 0 0] ∧ Bk w' (w.heap.size + 1 + 1 + 1) 24 #[.bool false, .slice none 0 0] ∧ Bk w' g8 24 #[.bool s8, .slice A8 n8 c8] ∧ Bk w' wq.heap.size 24 #[.bool sN, .slice AN nN cN] ∧ Bk w' g14 24 #[.bool sM, .slice AM nM cM] ∧ Below w.heap.size w w') := Lib.hid fun w' hb' =>
            ⟨e1.below hb' e1.lt, e2.below hb' e2.lt, e3.below hb' e3.lt, e4.below hb' e4.lt, e5.below hb' e5.lt, e6.below hb' e6.lt, e7.below hb' e7.lt, below_to e8 hb' e8.size⟩
           have HIQ := Lib.hid iQ2
           have HIR1 := Lib.hid iR2
           have HBV : Hid (Below wv.heap.size wv wv) := Lib.hid (Below.refl _ _)
           clear e1 e2 e3 e4 e5 e6 e7 e8 eM eN iQ2 iR2 hyK hC2 hn2
           have HFD := HFD0
           obtain ⟨Qv, hQv⟩ : ∃ z, Qv + 1 = z := ⟨_, rfl⟩
           rw [hQv] at HIQ HFD
           clear hQv
           obtain ⟨sQ, hh⟩ : ∃ z, z = sM := ⟨_, rfl⟩
           subst hh
           obtain ⟨AQ, hh⟩ : ∃ z, z = AM := ⟨_, rfl⟩
           subst hh
           obtain ⟨nQ, hh⟩ : ∃ z, z = nM := ⟨_, rfl⟩
           subst hh
           obtain ⟨cQ, hh⟩ : ∃ z, z = cM := ⟨_, rfl⟩
           subst hh
           obtain ⟨sr, hh⟩ : ∃ z, z = sN := ⟨_, rfl⟩
           subst hh
           obtain ⟨Ar, hh⟩ : ∃ z, z = AN := ⟨_, rfl⟩
           subst hh
           obtain ⟨nr, hh⟩ : ∃ z, z = nN := ⟨_, rfl⟩
           subst hh
           obtain ⟨cr, hh⟩ : ∃ z, z = cN := ⟨_, rfl⟩
           subst hh
           go_upto_region 21 with fail
           (
            rcases Int.lt_trichotomy y 0 with hy2 | hy2 | hy2
            case inr.inl => exact absurd hy2 hy
            case' inl =>
             obtain ⟨C3, hC3⟩ : ∃ C3, cmpI y 0 = C3 := ⟨_, rfl⟩
             have hn3 : C3 < 0 := by rw [← hC3, cmpI_lt hy2]; omega
             (
              obtain ⟨p1, p2, -⟩ := KA.out wv HBV.out
              obtain ⟨g0, g1⟩ := p1.duo
              obtain ⟨g2, g3⟩ := p2.duo
              refine region_goes (n := 7) (fun w' => w'.cell? ⟨w.heap.size, 0, none⟩ = some (.bool s1) ∧ w'.cell? ⟨w.heap.size, 1, none⟩ = some (.slice A1 n1 c1) ∧ w'.cell? ⟨w.heap.size + 1, 0, none⟩ = some (.bool s2) ∧ w'.cell? ⟨w.heap.size + 1, 1, none⟩ = some (.slice A2 n2 c2)) [] (by kernel_rfl) rfl ?_
              refine goes_take (i := 0) (v := .agg #[.bool s1, .slice A1 n1 c1]) rfl (by kernel_rfl) rfl (fun _ _ _ h => h) (by intro w' hw'; obtain ⟨y0, y1, y2, y3⟩ := hw'; go_simp) ⟨g0, g1, g2, g3⟩ ?_
              refine goes_take (i := 3) (v := .agg #[.bool s2, .slice A2 n2 c2]) rfl (by kernel_rfl) rfl (fun _ _ _ h => h) (by intro w' hw'; obtain ⟨y0, y1, y2, y3⟩ := hw'; go_simp) ⟨g0, g1, g2, g3⟩ ?_
              refine goes_call (i := 1) rfl (by kernel_rfl) ?_
              go_wp2_with (go_at_call 69; go_loud (with_reducible refine (rsignH h1 (HB1.out _ (KA.out _ (Below.drew HBV.out)).2.2.2.2.2.2.2) hC1).mono ?_; rintro e wa ⟨hba, rfl⟩; have hBa := below_to HBV.out (below_drew hba) HBV.out.size; obtain ⟨p1, p2, -⟩ := KA.out wa hBa; obtain ⟨u0, u1⟩ := p1.duo; obtain ⟨u2, u3⟩ := p2.duo; have HBa := Lib.hid hBa; clear hba hBa p1 p2))
              refine behind_ok ⟨⟨u0, u1, u2, u3⟩, ?_⟩
              refine goes_take (i := 2) (v := .bool true) rfl (by kernel_rfl) rfl (fun _ _ _ h => h) (by intro w' hw'; go_simp) ⟨u0, u1, u2, u3⟩ ?_
              refine goes_call (i := 4) rfl (by kernel_rfl) ?_
              go_wp2_with (go_at_call 69; go_loud (with_reducible refine (rsignH h2 (HB2.out _ (KA.out _ HBa.out).2.2.2.2.2.2.2) hC3).mono ?_; rintro e wb ⟨hbb, rfl⟩; have hBb := below_to HBa.out hbb HBa.out.size; obtain ⟨p1, p2, -⟩ := KA.out wb hBb; obtain ⟨v0, v1⟩ := p1.duo; obtain ⟨v2, v3⟩ := p2.duo; have HBb := Lib.hid hBb; clear hbb hBb p1 p2))
              refine behind_ok ⟨⟨v0, v1, v2, v3⟩, ?_⟩
              refine goes_take (i := 5) (v := .bool true) rfl (by kernel_rfl) rfl (fun _ _ _ h => h) (by intro w' hw'; go_simp) ⟨v0, v1, v2, v3⟩ ?_
              refine goes_take (i := 6) (v := .bool (true != true)) rfl (by kernel_rfl) rfl (fun _ _ _ h => h) (by intro w' hw'; go_simp) ⟨v0, v1, v2, v3⟩ ?_
              refine goes_done (by kernel_rfl) ?_
              obtain ⟨-, -, p3, p4, -, p6, p7, p8⟩ := KA.out wb HBb.out
              obtain ⟨m0, m1⟩ := p7.duo
              have f0 := p7.frozen 0
              have f1 := p7.frozen 1
              have HP3 := Lib.hid p3
              have HP4 := Lib.hid p4
              have HP6 := Lib.hid p6
              have HP7 := Lib.hid p7
              have HP8 := Lib.hid p8
              clear p3 p4 p6 p7 p8)
             (
              go_upto_region 23 with fail
              have iF : IntH wb sQ AQ nQ cQ (x / y) (K1 + 1) true := by
               rw [HFD.out.same (⟨fun _ => hy2, fun _ => hx⟩)]
               exact (HIQ.out.later HBb.out).tight (by rw [← HFD.out.same (⟨fun _ => hy2, fun _ => hx⟩)]; exact div_tight h1.abs)
              have iG : IntH wb sr Ar nr cr (x % y) K2 true := by
               rw [HFD.out.rest]
               exact HIR1.out.later HBb.out
              obtain ⟨W3, hW3⟩ : ∃ W, W = wb := ⟨_, rfl⟩
              subst hW3
              obtain ⟨sf, hsf⟩ : ∃ s, s = sQ := ⟨_, rfl⟩
              subst hsf
              obtain ⟨Af, hAf⟩ : ∃ s, s = AQ := ⟨_, rfl⟩
              subst hAf
              obtain ⟨nf, hnf⟩ : ∃ s, s = nQ := ⟨_, rfl⟩
              subst hnf
              obtain ⟨cf, hcf⟩ : ∃ s, s = cQ := ⟨_, rfl⟩
              subst hcf
              have hw := HP8.out
              have l14 := HP7.out
              have l9 := HP6.out
              have l3 := HP3.out
              have l4 := HP4.out)
            case' inr.inr =>
             obtain ⟨C3, hC3⟩ : ∃ C3, cmpI y 0 = C3 := ⟨_, rfl⟩
             have hn3 : ¬ C3 < 0 := by rw [← hC3, cmpI_gt hy2]; omega
             (
              obtain ⟨p1, p2, -⟩ := KA.out wv HBV.out
              obtain ⟨g0, g1⟩ := p1.duo
              obtain ⟨g2, g3⟩ := p2.duo
              refine region_goes (n := 7) (fun w' => w'.cell? ⟨w.heap.size, 0, none⟩ = some (.bool s1) ∧ w'.cell? ⟨w.heap.size, 1, none⟩ = some (.slice A1 n1 c1) ∧ w'.cell? ⟨w.heap.size + 1, 0, none⟩ = some (.bool s2) ∧ w'.cell? ⟨w.heap.size + 1, 1, none⟩ = some (.slice A2 n2 c2)) [] (by kernel_rfl) rfl ?_
              refine goes_take (i := 0) (v := .agg #[.bool s1, .slice A1 n1 c1]) rfl (by kernel_rfl) rfl (fun _ _ _ h => h) (by intro w' hw'; obtain ⟨y0, y1, y2, y3⟩ := hw'; go_simp) ⟨g0, g1, g2, g3⟩ ?_
              refine goes_take (i := 3) (v := .agg #[.bool s2, .slice A2 n2 c2]) rfl (by kernel_rfl) rfl (fun _ _ _ h => h) (by intro w' hw'; obtain ⟨y0, y1, y2, y3⟩ := hw'; go_simp) ⟨g0, g1, g2, g3⟩ ?_
              refine goes_call (i := 1) rfl (by kernel_rfl) ?_
              go_wp2_with (go_at_call 69; go_loud (with_reducible refine (rsignH h1 (HB1.out _ (KA.out _ (Below.drew HBV.out)).2.2.2.2.2.2.2) hC1).mono ?_; rintro e wa ⟨hba, rfl⟩; have hBa := below_to HBV.out (below_drew hba) HBV.out.size; obtain ⟨p1, p2, -⟩ := KA.out wa hBa; obtain ⟨u0, u1⟩ := p1.duo; obtain ⟨u2, u3⟩ := p2.duo; have HBa := Lib.hid hBa; clear hba hBa p1 p2))
              refine behind_ok ⟨⟨u0, u1, u2, u3⟩, ?_⟩
              refine goes_take (i := 2) (v := .bool true) rfl (by kernel_rfl) rfl (fun _ _ _ h => h) (by intro w' hw'; go_simp) ⟨u0, u1, u2, u3⟩ ?_
              refine goes_call (i := 4) rfl (by kernel_rfl) ?_
              go_wp2_with (go_at_call 69; go_loud (with_reducible refine (rsignH h2 (HB2.out _ (KA.out _ HBa.out).2.2.2.2.2.2.2) hC3).mono ?_; rintro e wb ⟨hbb, rfl⟩; have hBb := below_to HBa.out hbb HBa.out.size; obtain ⟨p1, p2, -⟩ := KA.out wb hBb; obtain ⟨v0, v1⟩ := p1.duo; obtain ⟨v2, v3⟩ := p2.duo; have HBb := Lib.hid hBb; clear hbb hBb p1 p2))
              refine behind_ok ⟨⟨v0, v1, v2, v3⟩, ?_⟩
              refine goes_take (i := 5) (v := .bool false) rfl (by kernel_rfl) rfl (fun _ _ _ h => h) (by intro w' hw'; go_simp) ⟨v0, v1, v2, v3⟩ ?_
              refine goes_take (i := 6) (v := .bool (true != false)) rfl (by kernel_rfl) rfl (fun _ _ _ h => h) (by intro w' hw'; go_simp) ⟨v0, v1, v2, v3⟩ ?_
              refine goes_done (by kernel_rfl) ?_
              obtain ⟨-, -, p3, p4, -, p6, p7, p8⟩ := KA.out wb HBb.out
              obtain ⟨m0, m1⟩ := p7.duo
              have f0 := p7.frozen 0
              have f1 := p7.frozen 1
              have HP3 := Lib.hid p3
              have HP4 := Lib.hid p4
              have HP6 := Lib.hid p6
              have HP7 := Lib.hid p7
              have HP8 := Lib.hid p8
              clear p3 p4 p6 p7 p8)
             (
              go_upto_region 23 with (go_at_call 65; go_loud (with_reducible refine (rminusH HIQ.out HBb.out (by omega)).mono ?_; rintro e wm ⟨hbm, sf, Af, nf, cf, rfl, im⟩; have km := HP7.out.below hbm HP7.out.lt; obtain ⟨m2, m3⟩ := km.duo; have f2' := km.frozen 0; have f3' := km.frozen 1; have HKM := Lib.hid km; have HIM := Lib.hid im; have HBM := Lib.hid hbm; clear km im hbm))
              have iF0 : IntH ((wm.setCell ⟨g14, 0, none⟩ (.bool sf)).setCell ⟨g14, 1, none⟩ (.slice Af nf cf)) sf Af nf cf (-Qv) (K1 + 4) true := HIM.out.past HKM.out _ _
              have iF : IntH ((wm.setCell ⟨g14, 0, none⟩ (.bool sf)).setCell ⟨g14, 1, none⟩ (.slice Af nf cf)) sf Af nf cf (x / y) (K1 + 1) true := by
               rw [← HFD.out.other (fun h => absurd (h.1 hx) (by omega))] at iF0
               exact iF0.tight (div_tight h1.abs)
              have iG : IntH ((wm.setCell ⟨g14, 0, none⟩ (.bool sf)).setCell ⟨g14, 1, none⟩ (.slice Af nf cf)) sr Ar nr cr (x % y) K2 true := by
               rw [HFD.out.rest]
               exact (HIR1.out.later (below_to HBb.out HBM.out HBb.out.size)).past HKM.out _ _
              have hw : Below w.heap.size w ((wm.setCell ⟨g14, 0, none⟩ (.bool sf)).setCell ⟨g14, 1, none⟩ (.slice Af nf cf)) := ((below_to HP8.out HBM.out HP8.out.size).setCell (by simp; omega) _).setCell (by simp; omega) _
              have l14 := HKM.out.duoset (.bool sf) (.slice Af nf cf)
              have l9 := (HP6.out.below HBM.out HP6.out.lt).two (g := g14) (by omega) (.bool sf) (.slice Af nf cf)
              have l3 := (HP3.out.below HBM.out HP3.out.lt).two (g := g14) (by omega) (.bool sf) (.slice Af nf cf)
              have l4 := (HP4.out.below HBM.out HP4.out.lt).two (g := g14) (by omega) (.bool sf) (.slice Af nf cf)
              generalize ((wm.setCell ⟨g14, 0, none⟩ (.bool sf)).setCell ⟨g14, 1, none⟩ (.slice Af nf cf)) = W3 at iF iF0 iG hw l14 l9 l3 l4 ⊢)
            all_goals
             (
              have wF : IntH W3.drew sf Af nf cf (x / y) (K1 + 1) true := iF.later ((Below.refl _ _).drew)
              have wG : IntH W3.drew sr Ar nr cr (x % y) K2 true := iG.later ((Below.refl _ _).drew)
              have hw' : Below w.heap.size w W3.drew := hw.drew
              have v14 : Bk W3.drew g14 24 #[.bool sf, .slice Af nf cf] := l14
              have v9 : Bk W3.drew wq.heap.size 24 #[.bool sr, .slice Ar nr cr] := l9
              have v3' : Bk W3.drew (w.heap.size + 1 + 1) 24 #[.bool false, .slice none 0 0] := l3
              have v4' : Bk W3.drew (w.heap.size + 1 + 1 + 1) 24 #[.bool false, .slice none 0 0] := l4
              refine region_goes (n := 5) (fun w' => w'.cell? ⟨g14, 0, none⟩ = some (.bool sf) ∧ w'.cell? ⟨g14, 1, none⟩ = some (.slice Af nf cf) ∧ w'.cell? ⟨wq.heap.size, 0, none⟩ = some (.bool sr) ∧ w'.cell? ⟨wq.heap.size, 1, none⟩ = some (.slice Ar nr cr)) [] (by kernel_rfl) rfl ?_
              clear iF iG hw l14 l9 l3 l4
              generalize W3.drew = V at wF wG hw' v14 v9 v3' v4' ⊢
              obtain ⟨b0, b1'⟩ := v14.duo
              obtain ⟨b2', b3⟩ := v9.duo
              obtain ⟨d0, d1⟩ := v3'.duo
              have e0 := v3'.frozen 0
              have e1 := v3'.frozen 1
              have HV3 := Lib.hid v3'
              have HV4 := Lib.hid v4'
              have HV9 := Lib.hid v9
              have HV14 := Lib.hid v14
              have HVW := Lib.hid hw'
              have HWF := Lib.hid wF
              have HWG := Lib.hid wG
              have lo14 : w.heap.size + 1 + 1 < g14 := by omega
              clear v3' v4' v9 v14 hw' wF wG m0 m1 f0 f1
              refine goes_take (i := 0) (v := .agg #[.bool sf, .slice Af nf cf]) rfl (by kernel_rfl) rfl (fun _ _ _ h => h) (by intro w' hw'; obtain ⟨y0, y1, y2, y3⟩ := hw'; go_simp) ⟨b0, b1', b2', b3⟩ ?_
              refine goes_take (i := 1) (v := .agg #[.bool sr, .slice Ar nr cr]) rfl (by kernel_rfl) rfl (fun _ _ _ h => h) (by intro w' hw'; obtain ⟨y0, y1, y2, y3⟩ := hw'; go_simp) ⟨b0, b1', b2', b3⟩ ?_
              refine goes_call (i := 2) rfl (by kernel_rfl) ?_
              go_wp2_with fail
              have o14 := HV14.out.two (g := w.heap.size + 1 + 1) (by omega) (.bool sf) (.slice Af nf cf)
              have o9 := HV9.out.two (g := w.heap.size + 1 + 1) (by omega) (.bool sf) (.slice Af nf cf)
              have o4 := HV4.out.two (g := w.heap.size + 1 + 1) (by omega) (.bool sf) (.slice Af nf cf)
              have o3 := HV3.out.duoset (.bool sf) (.slice Af nf cf)
              have oF := HWF.out.past HV3.out (.bool sf) (.slice Af nf cf)
              have oG := HWG.out.past HV3.out (.bool sf) (.slice Af nf cf)
              have oW : Below w.heap.size w ((V.setCell ⟨w.heap.size + 1 + 1, 0, none⟩ (.bool sf)).setCell ⟨w.heap.size + 1 + 1, 1, none⟩ (.slice Af nf cf)) := (HVW.out.setCell (by simp; omega) _).setCell (by simp; omega) _
              generalize ((V.setCell ⟨w.heap.size + 1 + 1, 0, none⟩ (.bool sf)).setCell ⟨w.heap.size + 1 + 1, 1, none⟩ (.slice Af nf cf)) = V2 at o14 o9 o4 o3 oF oG oW ⊢
              refine behind_ok ⟨⟨o14.duo.1, o14.duo.2, o9.duo.1, o9.duo.2⟩, ?_⟩
              refine goes_call (i := 3) rfl (by kernel_rfl) ?_
              obtain ⟨k0, k1'⟩ := o4.duo
              have h0' := o4.frozen 0
              have h1' := o4.frozen 1
              have HO14 := Lib.hid o14
              have HO9 := Lib.hid o9
              have HO4 := Lib.hid o4
              have HO3 := Lib.hid o3
              have HOF := Lib.hid oF
              have HOG := Lib.hid oG
              have HOWW := Lib.hid oW
              clear o14 o9 o4 o3 oF oG oW b0 b1' b2' b3 d0 d1 e0 e1
              go_wp2_with fail
              have o14 := HO14.out.two (g := w.heap.size + 1 + 1 + 1) (by omega) (.bool sr) (.slice Ar nr cr)
              have o9 := HO9.out.two (g := w.heap.size + 1 + 1 + 1) (by omega) (.bool sr) (.slice Ar nr cr)
              have o4 := HO4.out.duoset (.bool sr) (.slice Ar nr cr)
              have o3 := HO3.out.two (g := w.heap.size + 1 + 1 + 1) (by omega) (.bool sr) (.slice Ar nr cr)
              have oF := HOF.out.past HO4.out (.bool sr) (.slice Ar nr cr)
              have oG := HOG.out.past HO4.out (.bool sr) (.slice Ar nr cr)
              have oW : Below w.heap.size w ((V2.setCell ⟨w.heap.size + 1 + 1 + 1, 0, none⟩ (.bool sr)).setCell ⟨w.heap.size + 1 + 1 + 1, 1, none⟩ (.slice Ar nr cr)) := (HOWW.out.setCell (by simp; omega) _).setCell (by simp; omega) _
              generalize ((V2.setCell ⟨w.heap.size + 1 + 1 + 1, 0, none⟩ (.bool sr)).setCell ⟨w.heap.size + 1 + 1 + 1, 1, none⟩ (.slice Ar nr cr)) = V3 at o14 o9 o4 o3 oF oG oW ⊢
              refine behind_ok ⟨⟨o14.duo.1, o14.duo.2, o9.duo.1, o9.duo.2⟩, ?_⟩
              refine goes_call (i := 4) rfl (by kernel_rfl) ?_
              go_wp2_with fail
              refine behind_ok ⟨⟨o14.duo.1, o14.duo.2, o9.duo.1, o9.duo.2⟩, ?_⟩
              refine goes_done (by kernel_rfl) ?_
              obtain ⟨r0, r1⟩ := o3.duo
              obtain ⟨t0, t1⟩ := o4.duo
              have HOF := Lib.hid oF
              have HOG := Lib.hid oG
              have HOW2 := Lib.hid oW
              clear o14 o9 o4 o3 oF oG oW k0 k1' h0' h1'
              go_wp2
              refine bodyPost_ret (v := .tuple #[.agg #[.bool sf, .slice Af nf cf], .agg #[.bool sr, .slice Ar nr cr], .int .i64 0]) (by simp [results, Tryz.results21, go_sem, r0, r1, t0, t1]) rfl ?_
              exact ⟨HOW2.out, .inr ⟨hy, sf, Af, nf, cf, sr, Ar, nr, cr, rfl, HOF.out, HOG.out⟩⟩))
         · have hn2 : ¬ 0 < C2 := by rw [← hC2, cmpI_eq (by omega)]; omega
           have HFD := Lib.hid (HF.out.1 (.inr (by omega)))
           go_upto_region 21 with (first
            | (go_at_call 69; with_reducible refine (rsignH h1 (HB1.out _ (KA.out _ (Below.refl _ _)).2.2.2.2.2.2.2) hC1).mono ?_; rintro e wu ⟨hbu, rfl⟩; obtain ⟨z2, z3⟩ := (KA.out wu hbu).2.2.2.2.2.1.duo; have HBU := Lib.hid hbu; clear hbu)
            | (go_at_call 69; go_loud (with_reducible refine (rsignH HIR1.out HBU.out hC2).mono ?_; rintro e wv ⟨hbv, rfl⟩; have hbv2 := below_to HBU.out hbv HBU.out.size; have HBV := Lib.hid hbv2; clear hbv hbv2)))
           (
            rcases Int.lt_trichotomy y 0 with hy2 | hy2 | hy2
            case inr.inl => exact absurd hy2 hy
            case' inl =>
             obtain ⟨C3, hC3⟩ : ∃ C3, cmpI y 0 = C3 := ⟨_, rfl⟩
             have hn3 : C3 < 0 := by rw [← hC3, cmpI_lt hy2]; omega
             (
              obtain ⟨p1, p2, -⟩ := KA.out wv HBV.out
              obtain ⟨g0, g1⟩ := p1.duo
              obtain ⟨g2, g3⟩ := p2.duo
              refine region_goes (n := 7) (fun w' => w'.cell? ⟨w.heap.size, 0, none⟩ = some (.bool s1) ∧ w'.cell? ⟨w.heap.size, 1, none⟩ = some (.slice A1 n1 c1) ∧ w'.cell? ⟨w.heap.size + 1, 0, none⟩ = some (.bool s2) ∧ w'.cell? ⟨w.heap.size + 1, 1, none⟩ = some (.slice A2 n2 c2)) [] (by kernel_rfl) rfl ?_
              refine goes_take (i := 0) (v := .agg #[.bool s1, .slice A1 n1 c1]) rfl (by kernel_rfl) rfl (fun _ _ _ h => h) (by intro w' hw'; obtain ⟨y0, y1, y2, y3⟩ := hw'; go_simp) ⟨g0, g1, g2, g3⟩ ?_
              refine goes_take (i := 3) (v := .agg #[.bool s2, .slice A2 n2 c2]) rfl (by kernel_rfl) rfl (fun _ _ _ h => h) (by intro w' hw'; obtain ⟨y0, y1, y2, y3⟩ := hw'; go_simp) ⟨g0, g1, g2, g3⟩ ?_
              refine goes_call (i := 1) rfl (by kernel_rfl) ?_
              go_wp2_with (go_at_call 69; go_loud (with_reducible refine (rsignH h1 (HB1.out _ (KA.out _ (Below.drew HBV.out)).2.2.2.2.2.2.2) hC1).mono ?_; rintro e wa ⟨hba, rfl⟩; have hBa := below_to HBV.out (below_drew hba) HBV.out.size; obtain ⟨p1, p2, -⟩ := KA.out wa hBa; obtain ⟨u0, u1⟩ := p1.duo; obtain ⟨u2, u3⟩ := p2.duo; have HBa := Lib.hid hBa; clear hba hBa p1 p2))
              refine behind_ok ⟨⟨u0, u1, u2, u3⟩, ?_⟩
              refine goes_take (i := 2) (v := .bool true) rfl (by kernel_rfl) rfl (fun _ _ _ h => h) (by intro w' hw'; go_simp) ⟨u0, u1, u2, u3⟩ ?_
              refine goes_call (i := 4) rfl (by kernel_rfl) ?_
              go_wp2_with (go_at_call 69; go_loud (with_reducible refine (rsignH h2 (HB2.out _ (KA.out _ HBa.out).2.2.2.2.2.2.2) hC3).mono ?_; rintro e wb ⟨hbb, rfl⟩; have hBb := below_to HBa.out hbb HBa.out.size; obtain ⟨p1, p2, -⟩ := KA.out wb hBb; obtain ⟨v0, v1⟩ := p1.duo; obtain ⟨v2, v3⟩ := p2.duo; have HBb := Lib.hid hBb; clear hbb hBb p1 p2))
              refine behind_ok ⟨⟨v0, v1, v2, v3⟩, ?_⟩
              refine goes_take (i := 5) (v := .bool true) rfl (by kernel_rfl) rfl (fun _ _ _ h => h) (by intro w' hw'; go_simp) ⟨v0, v1, v2, v3⟩ ?_
              refine goes_take (i := 6) (v := .bool (true != true)) rfl (by kernel_rfl) rfl (fun _ _ _ h => h) (by intro w' hw'; go_simp) ⟨v0, v1, v2, v3⟩ ?_
              refine goes_done (by kernel_rfl) ?_
              obtain ⟨-, -, p3, p4, -, p6, p7, p8⟩ := KA.out wb HBb.out
              obtain ⟨m0, m1⟩ := p7.duo
              have f0 := p7.frozen 0
              have f1 := p7.frozen 1
              have HP3 := Lib.hid p3
              have HP4 := Lib.hid p4
              have HP6 := Lib.hid p6
              have HP7 := Lib.hid p7
              have HP8 := Lib.hid p8
              clear p3 p4 p6 p7 p8)
             (
              go_upto_region 23 with fail
              have iF : IntH wb sQ AQ nQ cQ (x / y) (K1 + 1) true := by
               rw [HFD.out.same (⟨fun _ => hy2, fun _ => hx⟩)]
               exact (HIQ.out.later HBb.out).tight (by rw [← HFD.out.same (⟨fun _ => hy2, fun _ => hx⟩)]; exact div_tight h1.abs)
              have iG : IntH wb sr Ar nr cr (x % y) K2 true := by
               rw [HFD.out.rest]
               exact HIR1.out.later HBb.out
              obtain ⟨W3, hW3⟩ : ∃ W, W = wb := ⟨_, rfl⟩
              subst hW3
              obtain ⟨sf, hsf⟩ : ∃ s, s = sQ := ⟨_, rfl⟩
              subst hsf
              obtain ⟨Af, hAf⟩ : ∃ s, s = AQ := ⟨_, rfl⟩
              subst hAf
              obtain ⟨nf, hnf⟩ : ∃ s, s = nQ := ⟨_, rfl⟩
              subst hnf
              obtain ⟨cf, hcf⟩ : ∃ s, s = cQ := ⟨_, rfl⟩
              subst hcf
              have hw := HP8.out
              have l14 := HP7.out
              have l9 := HP6.out
              have l3 := HP3.out
              have l4 := HP4.out)
            case' inr.inr =>
             obtain ⟨C3, hC3⟩ : ∃ C3, cmpI y 0 = C3 := ⟨_, rfl⟩
             have hn3 : ¬ C3 < 0 := by rw [← hC3, cmpI_gt hy2]; omega
             (
              obtain ⟨p1, p2, -⟩ := KA.out wv HBV.out
              obtain ⟨g0, g1⟩ := p1.duo
              obtain ⟨g2, g3⟩ := p2.duo
              refine region_goes (n := 7) (fun w' => w'.cell? ⟨w.heap.size, 0, none⟩ = some (.bool s1) ∧ w'.cell? ⟨w.heap.size, 1, none⟩ = some (.slice A1 n1 c1) ∧ w'.cell? ⟨w.heap.size + 1, 0, none⟩ = some (.bool s2) ∧ w'.cell? ⟨w.heap.size + 1, 1, none⟩ = some (.slice A2 n2 c2)) [] (by kernel_rfl) rfl ?_
              refine goes_take (i := 0) (v := .agg #[.bool s1, .slice A1 n1 c1]) rfl (by kernel_rfl) rfl (fun _ _ _ h => h) (by intro w' hw'; obtain ⟨y0, y1, y2, y3⟩ := hw'; go_simp) ⟨g0, g1, g2, g3⟩ ?_
              refine goes_take (i := 3) (v := .agg #[.bool s2, .slice A2 n2 c2]) rfl (by kernel_rfl) rfl (fun _ _ _ h => h) (by intro w' hw'; obtain ⟨y0, y1, y2, y3⟩ := hw'; go_simp) ⟨g0, g1, g2, g3⟩ ?_
              refine goes_call (i := 1) rfl (by kernel_rfl) ?_
              go_wp2_with (go_at_call 69; go_loud (with_reducible refine (rsignH h1 (HB1.out _ (KA.out _ (Below.drew HBV.out)).2.2.2.2.2.2.2) hC1).mono ?_; rintro e wa ⟨hba, rfl⟩; have hBa := below_to HBV.out (below_drew hba) HBV.out.size; obtain ⟨p1, p2, -⟩ := KA.out wa hBa; obtain ⟨u0, u1⟩ := p1.duo; obtain ⟨u2, u3⟩ := p2.duo; have HBa := Lib.hid hBa; clear hba hBa p1 p2))
              refine behind_ok ⟨⟨u0, u1, u2, u3⟩, ?_⟩
              refine goes_take (i := 2) (v := .bool true) rfl (by kernel_rfl) rfl (fun _ _ _ h => h) (by intro w' hw'; go_simp) ⟨u0, u1, u2, u3⟩ ?_
              refine goes_call (i := 4) rfl (by kernel_rfl) ?_
              go_wp2_with (go_at_call 69; go_loud (with_reducible refine (rsignH h2 (HB2.out _ (KA.out _ HBa.out).2.2.2.2.2.2.2) hC3).mono ?_; rintro e wb ⟨hbb, rfl⟩; have hBb := below_to HBa.out hbb HBa.out.size; obtain ⟨p1, p2, -⟩ := KA.out wb hBb; obtain ⟨v0, v1⟩ := p1.duo; obtain ⟨v2, v3⟩ := p2.duo; have HBb := Lib.hid hBb; clear hbb hBb p1 p2))
              refine behind_ok ⟨⟨v0, v1, v2, v3⟩, ?_⟩
              refine goes_take (i := 5) (v := .bool false) rfl (by kernel_rfl) rfl (fun _ _ _ h => h) (by intro w' hw'; go_simp) ⟨v0, v1, v2, v3⟩ ?_
              refine goes_take (i := 6) (v := .bool (true != false)) rfl (by kernel_rfl) rfl (fun _ _ _ h => h) (by intro w' hw'; go_simp) ⟨v0, v1, v2, v3⟩ ?_
              refine goes_done (by kernel_rfl) ?_
              obtain ⟨-, -, p3, p4, -, p6, p7, p8⟩ := KA.out wb HBb.out
              obtain ⟨m0, m1⟩ := p7.duo
              have f0 := p7.frozen 0
              have f1 := p7.frozen 1
              have HP3 := Lib.hid p3
              have HP4 := Lib.hid p4
              have HP6 := Lib.hid p6
              have HP7 := Lib.hid p7
              have HP8 := Lib.hid p8
              clear p3 p4 p6 p7 p8)
             (
              go_upto_region 23 with (go_at_call 65; go_loud (with_reducible refine (rminusH HIQ.out HBb.out (by omega)).mono ?_; rintro e wm ⟨hbm, sf, Af, nf, cf, rfl, im⟩; have km := HP7.out.below hbm HP7.out.lt; obtain ⟨m2, m3⟩ := km.duo; have f2' := km.frozen 0; have f3' := km.frozen 1; have HKM := Lib.hid km; have HIM := Lib.hid im; have HBM := Lib.hid hbm; clear km im hbm))
              have iF0 : IntH ((wm.setCell ⟨g14, 0, none⟩ (.bool sf)).setCell ⟨g14, 1, none⟩ (.slice Af nf cf)) sf Af nf cf (-Qv) (K1 + 4) true := HIM.out.past HKM.out _ _
              have iF : IntH ((wm.setCell ⟨g14, 0, none⟩ (.bool sf)).setCell ⟨g14, 1, none⟩ (.slice Af nf cf)) sf Af nf cf (x / y) (K1 + 1) true := by
               rw [← HFD.out.other (fun h => absurd (h.1 hx) (by omega))] at iF0
               exact iF0.tight (div_tight h1.abs)
              have iG : IntH ((wm.setCell ⟨g14, 0, none⟩ (.bool sf)).setCell ⟨g14, 1, none⟩ (.slice Af nf cf)) sr Ar nr cr (x % y) K2 true := by
               rw [HFD.out.rest]
               exact (HIR1.out.later (below_to HBb.out HBM.out HBb.out.size)).past HKM.out _ _
              have hw : Below w.heap.size w ((wm.setCell ⟨g14, 0, none⟩ (.bool sf)).setCell ⟨g14, 1, none⟩ (.slice Af nf cf)) := ((below_to HP8.out HBM.out HP8.out.size).setCell (by simp; omega) _).setCell (by simp; omega) _
              have l14 := HKM.out.duoset (.bool sf) (.slice Af nf cf)
              have l9 := (HP6.out.below HBM.out HP6.out.lt).two (g := g14) (by omega) (.bool sf) (.slice Af nf cf)
              have l3 := (HP3.out.below HBM.out HP3.out.lt).two (g := g14) (by omega) (.bool sf) (.slice Af nf cf)
              have l4 := (HP4.out.below HBM.out HP4.out.lt).two (g := g14) (by omega) (.bool sf) (.slice Af nf cf)
              generalize ((wm.setCell ⟨g14, 0, none⟩ (.bool sf)).setCell ⟨g14, 1, none⟩ (.slice Af nf cf)) = W3 at iF iF0 iG hw l14 l9 l3 l4 ⊢)
            all_goals
             (
              have wF : IntH W3.drew sf Af nf cf (x / y) (K1 + 1) true := iF.later ((Below.refl _ _).drew)
              have wG : IntH W3.drew sr Ar nr cr (x % y) K2 true := iG.later ((Below.refl _ _).drew)
              have hw' : Below w.heap.size w W3.drew := hw.drew
              have v14 : Bk W3.drew g14 24 #[.bool sf, .slice Af nf cf] := l14
              have v9 : Bk W3.drew wq.heap.size 24 #[.bool sr, .slice Ar nr cr] := l9
              have v3' : Bk W3.drew (w.heap.size + 1 + 1) 24 #[.bool false, .slice none 0 0] := l3
              have v4' : Bk W3.drew (w.heap.size + 1 + 1 + 1) 24 #[.bool false, .slice none 0 0] := l4
              refine region_goes (n := 5) (fun w' => w'.cell? ⟨g14, 0, none⟩ = some (.bool sf) ∧ w'.cell? ⟨g14, 1, none⟩ = some (.slice Af nf cf) ∧ w'.cell? ⟨wq.heap.size, 0, none⟩ = some (.bool sr) ∧ w'.cell? ⟨wq.heap.size, 1, none⟩ = some (.slice Ar nr cr)) [] (by kernel_rfl) rfl ?_
              clear iF iG hw l14 l9 l3 l4
              generalize W3.drew = V at wF wG hw' v14 v9 v3' v4' ⊢
              obtain ⟨b0, b1'⟩ := v14.duo
              obtain ⟨b2', b3⟩ := v9.duo
              obtain ⟨d0, d1⟩ := v3'.duo
              have e0 := v3'.frozen 0
              have e1 := v3'.frozen 1
              have HV3 := Lib.hid v3'
              have HV4 := Lib.hid v4'
              have HV9 := Lib.hid v9
              have HV14 := Lib.hid v14
              have HVW := Lib.hid hw'
              have HWF := Lib.hid wF
              have HWG := Lib.hid wG
              have lo14 : w.heap.size + 1 + 1 < g14 := by omega
              clear v3' v4' v9 v14 hw' wF wG m0 m1 f0 f1
              refine goes_take (i := 0) (v := .agg #[.bool sf, .slice Af nf cf]) rfl (by kernel_rfl) rfl (fun _ _ _ h => h) (by intro w' hw'; obtain ⟨y0, y1, y2, y3⟩ := hw'; go_simp) ⟨b0, b1', b2', b3⟩ ?_
              refine goes_take (i := 1) (v := .agg #[.bool sr, .slice Ar nr cr]) rfl (by kernel_rfl) rfl (fun _ _ _ h => h) (by intro w' hw'; obtain ⟨y0, y1, y2, y3⟩ := hw'; go_simp) ⟨b0, b1', b2', b3⟩ ?_
              refine goes_call (i := 2) rfl (by kernel_rfl) ?_
              go_wp2_with fail
              have o14 := HV14.out.two (g := w.heap.size + 1 + 1) (by omega) (.bool sf) (.slice Af nf cf)
              have o9 := HV9.out.two (g := w.heap.size + 1 + 1) (by omega) (.bool sf) (.slice Af nf cf)
              have o4 := HV4.out.two (g := w.heap.size + 1 + 1) (by omega) (.bool sf) (.slice Af nf cf)
              have o3 := HV3.out.duoset (.bool sf) (.slice Af nf cf)
              have oF := HWF.out.past HV3.out (.bool sf) (.slice Af nf cf)
              have oG := HWG.out.past HV3.out (.bool sf) (.slice Af nf cf)
              have oW : Below w.heap.size w ((V.setCell ⟨w.heap.size + 1 + 1, 0, none⟩ (.bool sf)).setCell ⟨w.heap.size + 1 + 1, 1, none⟩ (.slice Af nf cf)) := (HVW.out.setCell (by simp; omega) _).setCell (by simp; omega) _
              generalize ((V.setCell ⟨w.heap.size + 1 + 1, 0, none⟩ (.bool sf)).setCell ⟨w.heap.size + 1 + 1, 1, none⟩ (.slice Af nf cf)) = V2 at o14 o9 o4 o3 oF oG oW ⊢
              refine behind_ok ⟨⟨o14.duo.1, o14.duo.2, o9.duo.1, o9.duo.2⟩, ?_⟩
              refine goes_call (i := 3) rfl (by kernel_rfl) ?_
              obtain ⟨k0, k1'⟩ := o4.duo
              have h0' := o4.frozen 0
              have h1' := o4.frozen 1
              have HO14 := Lib.hid o14
              have HO9 := Lib.hid o9
              have HO4 := Lib.hid o4
              have HO3 := Lib.hid o3
              have HOF := Lib.hid oF
              have HOG := Lib.hid oG
              have HOWW := Lib.hid oW
              clear o14 o9 o4 o3 oF oG oW b0 b1' b2' b3 d0 d1 e0 e1
              go_wp2_with fail
              have o14 := HO14.out.two (g := w.heap.size + 1 + 1 + 1) (by omega) (.bool sr) (.slice Ar nr cr)
              have o9 := HO9.out.two (g := w.heap.size + 1 + 1 + 1) (by omega) (.bool sr) (.slice Ar nr cr)
              have o4 := HO4.out.duoset (.bool sr) (.slice Ar nr cr)
              have o3 := HO3.out.two (g := w.heap.size + 1 + 1 + 1) (by omega) (.bool sr) (.slice Ar nr cr)
              have oF := HOF.out.past HO4.out (.bool sr) (.slice Ar nr cr)
              have oG := HOG.out.past HO4.out (.bool sr) (.slice Ar nr cr)
              have oW : Below w.heap.size w ((V2.setCell ⟨w.heap.size + 1 + 1 + 1, 0, none⟩ (.bool sr)).setCell ⟨w.heap.size + 1 + 1 + 1, 1, none⟩ (.slice Ar nr cr)) := (HOWW.out.setCell (by simp; omega) _).setCell (by simp; omega) _
              generalize ((V2.setCell ⟨w.heap.size + 1 + 1 + 1, 0, none⟩ (.bool sr)).setCell ⟨w.heap.size + 1 + 1 + 1, 1, none⟩ (.slice Ar nr cr)) = V3 at o14 o9 o4 o3 oF oG oW ⊢
              refine behind_ok ⟨⟨o14.duo.1, o14.duo.2, o9.duo.1, o9.duo.2⟩, ?_⟩
              refine goes_call (i := 4) rfl (by kernel_rfl) ?_
              go_wp2_with fail
              refine behind_ok ⟨⟨o14.duo.1, o14.duo.2, o9.duo.1, o9.duo.2⟩, ?_⟩
              refine goes_done (by kernel_rfl) ?_
              obtain ⟨r0, r1⟩ := o3.duo
              obtain ⟨t0, t1⟩ := o4.duo
              have HOF := Lib.hid oF
              have HOG := Lib.hid oG
              have HOW2 := Lib.hid oW
              clear o14 o9 o4 o3 oF oG oW k0 k1' h0' h1'
              go_wp2
              refine bodyPost_ret (v := .tuple #[.agg #[.bool sf, .slice Af nf cf], .agg #[.bool sr, .slice Ar nr cr], .int .i64 0]) (by simp [results, Tryz.results21, go_sem, r0, r1, t0, t1]) rfl ?_
              exact ⟨HOW2.out, .inr ⟨hy, sf, Af, nf, cf, sr, Ar, nr, cr, rfl, HOF.out, HOG.out⟩⟩))
       · obtain ⟨C1, hC1⟩ : ∃ C1, cmpI x 0 = C1 := ⟨_, rfl⟩
         have hd1 : decide (C1 < 0) = false := by
          rw [← hC1]
          rcases Int.lt_or_eq_of_le hx with h | h
          · rw [cmpI_gt h]; rfl
          · rw [cmpI_eq h.symm]; rfl
         have hn1 : ¬ C1 < 0 := by simpa using hd1
         have HFD := Lib.hid (HF.out.1 (.inl hx))
         go_upto_region 21 with (go_at_call 69; go_loud (with_reducible refine (rsignH h1 (HB1.out _ (KA.out _ (Below.refl _ _)).2.2.2.2.2.2.2) hC1).mono ?_; rintro e wv ⟨hbv, rfl⟩; have HBV := Lib.hid hbv; clear hbv))
         (
          rcases Int.lt_trichotomy y 0 with hy2 | hy2 | hy2
          case inr.inl => exact absurd hy2 hy
          case' inl =>
           obtain ⟨C3, hC3⟩ : ∃ C3, cmpI y 0 = C3 := ⟨_, rfl⟩
           have hn3 : C3 < 0 := by rw [← hC3, cmpI_lt hy2]; omega
           (
            obtain ⟨p1, p2, -⟩ := KA.out wv HBV.out
            obtain ⟨g0, g1⟩ := p1.duo
            obtain ⟨g2, g3⟩ := p2.duo
            refine region_goes (n := 7) (fun w' => w'.cell? ⟨w.heap.size, 0, none⟩ = some (.bool s1) ∧ w'.cell? ⟨w.heap.size, 1, none⟩ = some (.slice A1 n1 c1) ∧ w'.cell? ⟨w.heap.size + 1, 0, none⟩ = some (.bool s2) ∧ w'.cell? ⟨w.heap.size + 1, 1, none⟩ = some (.slice A2 n2 c2)) [] (by kernel_rfl) rfl ?_
            refine goes_take (i := 0) (v := .agg #[.bool s1, .slice A1 n1 c1]) rfl (by kernel_rfl) rfl (fun _ _ _ h => h) (by intro w' hw'; obtain ⟨y0, y1, y2, y3⟩ := hw'; go_simp) ⟨g0, g1, g2, g3⟩ ?_
            refine goes_take (i := 3) (v := .agg #[.bool s2, .slice A2 n2 c2]) rfl (by kernel_rfl) rfl (fun _ _ _ h => h) (by intro w' hw'; obtain ⟨y0, y1, y2, y3⟩ := hw'; go_simp) ⟨g0, g1, g2, g3⟩ ?_
            refine goes_call (i := 1) rfl (by kernel_rfl) ?_
            go_wp2_with (go_at_call 69; go_loud (with_reducible refine (rsignH h1 (HB1.out _ (KA.out _ (Below.drew HBV.out)).2.2.2.2.2.2.2) hC1).mono ?_; rintro e wa ⟨hba, rfl⟩; have hBa := below_to HBV.out (below_drew hba) HBV.out.size; obtain ⟨p1, p2, -⟩ := KA.out wa hBa; obtain ⟨u0, u1⟩ := p1.duo; obtain ⟨u2, u3⟩ := p2.duo; have HBa := Lib.hid hBa; clear hba hBa p1 p2))
            refine behind_ok ⟨⟨u0, u1, u2, u3⟩, ?_⟩
            refine goes_take (i := 2) (v := .bool false) rfl (by kernel_rfl) rfl (fun _ _ _ h => h) (by intro w' hw'; go_simp) ⟨u0, u1, u2, u3⟩ ?_
            refine goes_call (i := 4) rfl (by kernel_rfl) ?_
            go_wp2_with (go_at_call 69; go_loud (with_reducible refine (rsignH h2 (HB2.out _ (KA.out _ HBa.out).2.2.2.2.2.2.2) hC3).mono ?_; rintro e wb ⟨hbb, rfl⟩; have hBb := below_to HBa.out hbb HBa.out.size; obtain ⟨p1, p2, -⟩ := KA.out wb hBb; obtain ⟨v0, v1⟩ := p1.duo; obtain ⟨v2, v3⟩ := p2.duo; have HBb := Lib.hid hBb; clear hbb hBb p1 p2))
            refine behind_ok ⟨⟨v0, v1, v2, v3⟩, ?_⟩
            refine goes_take (i := 5) (v := .bool true) rfl (by kernel_rfl) rfl (fun _ _ _ h => h) (by intro w' hw'; go_simp) ⟨v0, v1, v2, v3⟩ ?_
            refine goes_take (i := 6) (v := .bool (false != true)) rfl (by kernel_rfl) rfl (fun _ _ _ h => h) (by intro w' hw'; go_simp) ⟨v0, v1, v2, v3⟩ ?_
            refine goes_done (by kernel_rfl) ?_
            obtain ⟨-, -, p3, p4, -, p6, p7, p8⟩ := KA.out wb HBb.out
            obtain ⟨m0, m1⟩ := p7.duo
            have f0 := p7.frozen 0
            have f1 := p7.frozen 1
            have HP3 := Lib.hid p3
            have HP4 := Lib.hid p4
            have HP6 := Lib.hid p6
            have HP7 := Lib.hid p7
            have HP8 := Lib.hid p8
            clear p3 p4 p6 p7 p8)
           (
            go_upto_region 23 with (go_at_call 65; go_loud (with_reducible refine (rminusH HIQ.out HBb.out (by omega)).mono ?_; rintro e wm ⟨hbm, sf, Af, nf, cf, rfl, im⟩; have km := HP7.out.below hbm HP7.out.lt; obtain ⟨m2, m3⟩ := km.duo; have f2' := km.frozen 0; have f3' := km.frozen 1; have HKM := Lib.hid km; have HIM := Lib.hid im; have HBM := Lib.hid hbm; clear km im hbm))
            have iF0 : IntH ((wm.setCell ⟨g14, 0, none⟩ (.bool sf)).setCell ⟨g14, 1, none⟩ (.slice Af nf cf)) sf Af nf cf (-Qv) (K1 + 4) true := HIM.out.past HKM.out _ _
            have iF : IntH ((wm.setCell ⟨g14, 0, none⟩ (.bool sf)).setCell ⟨g14, 1, none⟩ (.slice Af nf cf)) sf Af nf cf (x / y) (K1 + 1) true := by
             rw [← HFD.out.other (fun h => absurd (h.2 hy2) (by omega))] at iF0
             exact iF0.tight (div_tight h1.abs)
            have iG : IntH ((wm.setCell ⟨g14, 0, none⟩ (.bool sf)).setCell ⟨g14, 1, none⟩ (.slice Af nf cf)) sr Ar nr cr (x % y) K2 true := by
             rw [HFD.out.rest]
             exact (HIR1.out.later (below_to HBb.out HBM.out HBb.out.size)).past HKM.out _ _
            have hw : Below w.heap.size w ((wm.setCell ⟨g14, 0, none⟩ (.bool sf)).setCell ⟨g14, 1, none⟩ (.slice Af nf cf)) := ((below_to HP8.out HBM.out HP8.out.size).setCell (by simp; omega) _).setCell (by simp; omega) _
            have l14 := HKM.out.duoset (.bool sf) (.slice Af nf cf)
            have l9 := (HP6.out.below HBM.out HP6.out.lt).two (g := g14) (by omega) (.bool sf) (.slice Af nf cf)
            have l3 := (HP3.out.below HBM.out HP3.out.lt).two (g := g14) (by omega) (.bool sf) (.slice Af nf cf)
            have l4 := (HP4.out.below HBM.out HP4.out.lt).two (g := g14) (by omega) (.bool sf) (.slice Af nf cf)
            generalize ((wm.setCell ⟨g14, 0, none⟩ (.bool sf)).setCell ⟨g14, 1, none⟩ (.slice Af nf cf)) = W3 at iF iF0 iG hw l14 l9 l3 l4 ⊢)
          case' inr.inr =>
           obtain ⟨C3, hC3⟩ : ∃ C3, cmpI y 0 = C3 := ⟨_, rfl⟩
           have hn3 : ¬ C3 < 0 := by rw [← hC3, cmpI_gt hy2]; omega
           (
            obtain ⟨p1, p2, -⟩ := KA.out wv HBV.out
            obtain ⟨g0, g1⟩ := p1.duo
            obtain ⟨g2, g3⟩ := p2.duo
            refine region_goes (n := 7) (fun w' => w'.cell? ⟨w.heap.size, 0, none⟩ = some (.bool s1) ∧ w'.cell? ⟨w.heap.size, 1, none⟩ = some (.slice A1 n1 c1) ∧ w'.cell? ⟨w.heap.size + 1, 0, none⟩ = some (.bool s2) ∧ w'.cell? ⟨w.heap.size + 1, 1, none⟩ = some (.slice A2 n2 c2)) [] (by kernel_rfl) rfl ?_
            refine goes_take (i := 0) (v := .agg #[.bool s1, .slice A1 n1 c1]) rfl (by kernel_rfl) rfl (fun _ _ _ h => h) (by intro w' hw'; obtain ⟨y0, y1, y2, y3⟩ := hw'; go_simp) ⟨g0, g1, g2, g3⟩ ?_
            refine goes_take (i := 3) (v := .agg #[.bool s2, .slice A2 n2 c2]) rfl (by kernel_rfl) rfl (fun _ _ _ h => h) (by intro w' hw'; obtain ⟨y0, y1, y2, y3⟩ := hw'; go_simp) ⟨g0, g1, g2, g3⟩ ?_
            refine goes_call (i := 1) rfl (by kernel_rfl) ?_
            go_wp2_with (go_at_call 69; go_loud (with_reducible refine (rsignH h1 (HB1.out _ (KA.out _ (Below.drew HBV.out)).2.2.2.2.2.2.2) hC1).mono ?_; rintro e wa ⟨hba, rfl⟩; have hBa := below_to HBV.out (below_drew hba) HBV.out.size; obtain ⟨p1, p2, -⟩ := KA.out wa hBa; obtain ⟨u0, u1⟩ := p1.duo; obtain ⟨u2, u3⟩ := p2.duo; have HBa := Lib.hid hBa; clear hba hBa p1 p2))
            refine behind_ok ⟨⟨u0, u1, u2, u3⟩, ?_⟩
            refine goes_take (i := 2) (v := .bool false) rfl (by kernel_rfl) rfl (fun _ _ _ h => h) (by intro w' hw'; go_simp) ⟨u0, u1, u2, u3⟩ ?_
            refine goes_call (i := 4) rfl (by kernel_rfl) ?_
            go_wp2_with (go_at_call 69; go_loud (with_reducible refine (rsignH h2 (HB2.out _ (KA.out _ HBa.out).2.2.2.2.2.2.2) hC3).mono ?_; rintro e wb ⟨hbb, rfl⟩; have hBb := below_to HBa.out hbb HBa.out.size; obtain ⟨p1, p2, -⟩ := KA.out wb hBb; obtain ⟨v0, v1⟩ := p1.duo; obtain ⟨v2, v3⟩ := p2.duo; have HBb := Lib.hid hBb; clear hbb hBb p1 p2))
            refine behind_ok ⟨⟨v0, v1, v2, v3⟩, ?_⟩
            refine goes_take (i := 5) (v := .bool false) rfl (by kernel_rfl) rfl (fun _ _ _ h => h) (by intro w' hw'; go_simp) ⟨v0, v1, v2, v3⟩ ?_
            refine goes_take (i := 6) (v := .bool (false != false)) rfl (by kernel_rfl) rfl (fun _ _ _ h => h) (by intro w' hw'; go_simp) ⟨v0, v1, v2, v3⟩ ?_
            refine goes_done (by kernel_rfl) ?_
            obtain ⟨-, -, p3, p4, -, p6, p7, p8⟩ := KA.out wb HBb.out
            obtain ⟨m0, m1⟩ := p7.duo
            have f0 := p7.frozen 0
            have f1 := p7.frozen 1
            have HP3 := Lib.hid p3
            have HP4 := Lib.hid p4
            have HP6 := Lib.hid p6
            have HP7 := Lib.hid p7
            have HP8 := Lib.hid p8
            clear p3 p4 p6 p7 p8)
           (
            go_upto_region 23 with fail
            have iF : IntH wb sQ AQ nQ cQ (x / y) (K1 + 1) true := by
             rw [HFD.out.same (⟨fun h => absurd h (by omega), fun h => absurd h (by omega)⟩)]
             exact (HIQ.out.later HBb.out).tight (by rw [← HFD.out.same (⟨fun h => absurd h (by omega), fun h => absurd h (by omega)⟩)]; exact div_tight h1.abs)
            have iG : IntH wb sr Ar nr cr (x % y) K2 true := by
             rw [HFD.out.rest]
             exact HIR1.out.later HBb.out
            obtain ⟨W3, hW3⟩ : ∃ W, W = wb := ⟨_, rfl⟩
            subst hW3
            obtain ⟨sf, hsf⟩ : ∃ s, s = sQ := ⟨_, rfl⟩
            subst hsf
            obtain ⟨Af, hAf⟩ : ∃ s, s = AQ := ⟨_, rfl⟩
            subst hAf
            obtain ⟨nf, hnf⟩ : ∃ s, s = nQ := ⟨_, rfl⟩
            subst hnf
            obtain ⟨cf, hcf⟩ : ∃ s, s = cQ := ⟨_, rfl⟩
            subst hcf
            have hw := HP8.out
            have l14 := HP7.out
            have l9 := HP6.out
            have l3 := HP3.out
            have l4 := HP4.out)
          all_goals
           (
            have wF : IntH W3.drew sf Af nf cf (x / y) (K1 + 1) true := iF.later ((Below.refl _ _).drew)
            have wG : IntH W3.drew sr Ar nr cr (x % y) K2 true := iG.later ((Below.refl _ _).drew)
            have hw' : Below w.heap.size w W3.drew := hw.drew
            have v14 : Bk W3.drew g14 24 #[.bool sf, .slice Af nf cf] := l14
            have v9 : Bk W3.drew wq.heap.size 24 #[.bool sr, .slice Ar nr cr] := l9
            have v3' : Bk W3.drew (w.heap.size + 1 + 1) 24 #[.bool false, .slice none 0 0] := l3
            have v4' : Bk W3.drew (w.heap.size + 1 + 1 + 1) 24 #[.bool false, .slice none 0 0] := l4
            refine region_goes (n := 5) (fun w' => w'.cell? ⟨g14, 0, none⟩ = some (.bool sf) ∧ w'.cell? ⟨g14, 1, none⟩ = some (.slice Af nf cf) ∧ w'.cell? ⟨wq.heap.size, 0, none⟩ = some (.bool sr) ∧ w'.cell? ⟨wq.heap.size, 1, none⟩ = some (.slice Ar nr cr)) [] (by kernel_rfl) rfl ?_
            clear iF iG hw l14 l9 l3 l4
            generalize W3.drew = V at wF wG hw' v14 v9 v3' v4' ⊢
            obtain ⟨b0, b1'⟩ := v14.duo
            obtain ⟨b2', b3⟩ := v9.duo
            obtain ⟨d0, d1⟩ := v3'.duo
            have e0 := v3'.frozen 0
            have e1 := v3'.frozen 1
            have HV3 := Lib.hid v3'
            have HV4 := Lib.hid v4'
            have HV9 := Lib.hid v9
            have HV14 := Lib.hid v14
            have HVW := Lib.hid hw'
            have HWF := Lib.hid wF
            have HWG := Lib.hid wG
            have lo14 : w.heap.size + 1 + 1 < g14 := by omega
            clear v3' v4' v9 v14 hw' wF wG m0 m1 f0 f1
            refine goes_take (i := 0) (v := .agg #[.bool sf, .slice Af nf cf]) rfl (by kernel_rfl) rfl (fun _ _ _ h => h) (by intro w' hw'; obtain ⟨y0, y1, y2, y3⟩ := hw'; go_simp) ⟨b0, b1', b2', b3⟩ ?_
            refine goes_take (i := 1) (v := .agg #[.bool sr, .slice Ar nr cr]) rfl (by kernel_rfl) rfl (fun _ _ _ h => h) (by intro w' hw'; obtain ⟨y0, y1, y2, y3⟩ := hw'; go_simp) ⟨b0, b1', b2', b3⟩ ?_
            refine goes_call (i := 2) rfl (by kernel_rfl) ?_
            go_wp2_with fail
            have o14 := HV14.out.two (g := w.heap.size + 1 + 1) (by omega) (.bool sf) (.slice Af nf cf)
            have o9 := HV9.out.two (g := w.heap.size + 1 + 1) (by omega) (.bool sf) (.slice Af nf cf)
            have o4 := HV4.out.two (g := w.heap.size + 1 + 1) (by omega) (.bool sf) (.slice Af nf cf)
            have o3 := HV3.out.duoset (.bool sf) (.slice Af nf cf)
            have oF := HWF.out.past HV3.out (.bool sf) (.slice Af nf cf)
            have oG := HWG.out.past HV3.out (.bool sf) (.slice Af nf cf)
            have oW : Below w.heap.size w ((V.setCell ⟨w.heap.size + 1 + 1, 0, none⟩ (.bool sf)).setCell ⟨w.heap.size + 1 + 1, 1, none⟩ (.slice Af nf cf)) := (HVW.out.setCell (by simp; omega) _).setCell (by simp; omega) _
            generalize ((V.setCell ⟨w.heap.size + 1 + 1, 0, none⟩ (.bool sf)).setCell ⟨w.heap.size + 1 + 1, 1, none⟩ (.slice Af nf cf)) = V2 at o14 o9 o4 o3 oF oG oW ⊢
            refine behind_ok ⟨⟨o14.duo.1, o14.duo.2, o9.duo.1, o9.duo.2⟩, ?_⟩
            refine goes_call (i := 3) rfl (by kernel_rfl) ?_
            obtain ⟨k0, k1'⟩ := o4.duo
            have h0' := o4.frozen 0
            have h1' := o4.frozen 1
            have HO14 := Lib.hid o14
            have HO9 := Lib.hid o9
            have HO4 := Lib.hid o4
            have HO3 := Lib.hid o3
            have HOF := Lib.hid oF
            have HOG := Lib.hid oG
            have HOWW := Lib.hid oW
            clear o14 o9 o4 o3 oF oG oW b0 b1' b2' b3 d0 d1 e0 e1
            go_wp2_with fail
            have o14 := HO14.out.two (g := w.heap.size + 1 + 1 + 1) (by omega) (.bool sr) (.slice Ar nr cr)
            have o9 := HO9.out.two (g := w.heap.size + 1 + 1 + 1) (by omega) (.bool sr) (.slice Ar nr cr)
            have o4 := HO4.out.duoset (.bool sr) (.slice Ar nr cr)
            have o3 := HO3.out.two (g := w.heap.size + 1 + 1 + 1) (by omega) (.bool sr) (.slice Ar nr cr)
            have oF := HOF.out.past HO4.out (.bool sr) (.slice Ar nr cr)
            have oG := HOG.out.past HO4.out (.bool sr) (.slice Ar nr cr)
            have oW : Below w.heap.size w ((V2.setCell ⟨w.heap.size + 1 + 1 + 1, 0, none⟩ (.bool sr)).setCell ⟨w.heap.size + 1 + 1 + 1, 1, none⟩ (.slice Ar nr cr)) := (HOWW.out.setCell (by simp; omega) _).setCell (by simp; omega) _
            generalize ((V2.setCell ⟨w.heap.size + 1 + 1 + 1, 0, none⟩ (.bool sr)).setCell ⟨w.heap.size + 1 + 1 + 1, 1, none⟩ (.slice Ar nr cr)) = V3 at o14 o9 o4 o3 oF oG oW ⊢
            refine behind_ok ⟨⟨o14.duo.1, o14.duo.2, o9.duo.1, o9.duo.2⟩, ?_⟩
            refine goes_call (i := 4) rfl (by kernel_rfl) ?_
            go_wp2_with fail
            refine behind_ok ⟨⟨o14.duo.1, o14.duo.2, o9.duo.1, o9.duo.2⟩, ?_⟩
            refine goes_done (by kernel_rfl) ?_
            obtain ⟨r0, r1⟩ := o3.duo
            obtain ⟨t0, t1⟩ := o4.duo
            have HOF := Lib.hid oF
            have HOG := Lib.hid oG
            have HOW2 := Lib.hid oW
            clear o14 o9 o4 o3 oF oG oW k0 k1' h0' h1'
            go_wp2
            refine bodyPost_ret (v := .tuple #[.agg #[.bool sf, .slice Af nf cf], .agg #[.bool sr, .slice Ar nr cr], .int .i64 0]) (by simp [results, Tryz.results21, go_sem, r0, r1, t0, t1]) rfl ?_
            exact ⟨HOW2.out, .inr ⟨hy, sf, Af, nf, cf, sr, Ar, nr, cr, rfl, HOF.out, HOG.out⟩⟩))
     · skip
       --#c
       obtain ⟨jj, rfl⟩ : ∃ jj, j = jj + 1 := ⟨j - 1, by omega⟩
       have hz : ((jj + 1 : Nat) : Int) - 1 = (jj : Int) := by omega
       rw [hz]
       have hjm : jj < m := by have h := HI.out.len; rw [HLA.out] at h; omega
       obtain ⟨p7, o7, y0, rfl, hp7, hy0, -⟩ := (i7.all wq (Below.refl _ _)).at_ hjm
       have c70 := i7.cell hbr hy0
       have e7 := set_farI (g := wq.heap.size) (b := p7) (by omega)
       have hd0 := HD.out y0 (List.mem_of_getElem? hy0)
       have HY0 := Lib.hid hy0
       have zj : (0 : Int) ≤ (jj : Int) := by omega
       have zm : (jj : Int) < (m : Int) := by omega
       obtain ⟨r0, r1⟩ := hk9.duo
       have fr0 := hk9.frozen 0
       have fr1 := hk9.frozen 1
       clear hy0 hz
       go_upto_region 9 with fail
       go_cut [] (fun wx => ∃ (s : Bool) (A : Option Addr) (n c : Nat), Bk wx wq.heap.size 24 #[.bool s, .slice A n c] ∧ IntH wx s A n c (R * 65536 + y0) (K2 + 5) true ∧ wx.ownsRow (wq.heap.size + 1) 3 1 (.slice Aq q cq) q (i64s qs) ∧ Below wq.heap.size wq wx)
       case first =>
        --#b
        have KP : Hid (∀ w', Below wo.heap.size wo w' → w'.cell? ⟨wq.heap.size, 0, none⟩ = some (.bool sr) ∧ w'.cell? ⟨wq.heap.size, 1, none⟩ = some (.slice Ar nr cr) ∧ w'.frozen? ⟨wq.heap.size, 0, none⟩ = false ∧ w'.frozen? ⟨wq.heap.size, 1, none⟩ = false ∧ w'.cell? ⟨p7, o7 + jj, none⟩ = some (.int .i64 y0)) := Lib.hid fun w' hb' => by
         have hk := hk9.below hb' og
         exact ⟨hk.duo.1, hk.duo.2, hk.frozen 0, hk.frozen 1, i7.cell (below_to hbr hb' ow) HY0.out⟩
        have HK9 := Lib.hid hk9
        have HIR := Lib.hid iR
        have HBO := Lib.hid hbr
        refine region_goes (n := 10) (fun w' => w'.cell? ⟨wq.heap.size, 0, none⟩ = some (.bool sr) ∧ w'.cell? ⟨wq.heap.size, 1, none⟩ = some (.slice Ar nr cr) ∧ w'.cell? ⟨p7, o7 + jj, none⟩ = some (.int .i64 y0)) [9] (by kernel_rfl) rfl ?_
        refine goes_take (i := 0) (v := .agg #[.bool sr, .slice Ar nr cr]) rfl (by kernel_rfl) rfl (fun _ _ _ h => h) (by intro w' hw'; obtain ⟨x0, x1, x2⟩ := hw'; go_simp) ⟨r0, r1, c70⟩ ?_
        refine goes_take (i := 3) (v := .slice (some ⟨p7, o7, none⟩) m c7) rfl (by kernel_rfl) rfl (fun _ _ _ h => h) (by intro w' hw'; go_simp) ⟨r0, r1, c70⟩ ?_
        refine goes_take (i := 4) (v := .int .i64 (jj : Int)) rfl (by kernel_rfl) rfl (fun _ _ _ h => h) (by intro w' hw'; go_simp) ⟨r0, r1, c70⟩ ?_
        refine goes_take (i := 5) (v := .pointer (some ⟨p7, o7 + jj, none⟩)) rfl (by kernel_rfl) rfl (fun _ _ _ h => h) (by intro w' hw'; go_simp) ⟨r0, r1, c70⟩ ?_
        refine goes_take (i := 6) (v := .int .i64 y0) rfl (by kernel_rfl) rfl (fun _ _ _ h => h) (by intro w' hw'; obtain ⟨x0, x1, x2⟩ := hw'; go_simp) ⟨r0, r1, c70⟩ ?_
        refine goes_call (i := 1) rfl (by kernel_rfl) ?_
        go_wp2_with (go_at_call 13; go_loud (with_reducible refine (rofH 65536 _ (by omega) (by omega)).mono ?_; rintro e wa ⟨hba, sa, Aa, na, cca, rfl, ia⟩; have hBa := below_drew hba; obtain ⟨u0, u1, u2, u3, u4⟩ := KP.out wa hBa; have HBa := Lib.hid hBa; have HIA := Lib.hid ia; clear hba hBa ia))
        refine behind_ok ⟨⟨u0, u1, u4⟩, ?_⟩
        refine goes_call (i := 2) rfl (by kernel_rfl) ?_
        go_wp2_with (go_at_call 19; go_loud (with_reducible refine (rprodH HIR.out HIA.out HBa.out (Below.refl _ _) (by omega) (by omega)).mono ?_; rintro e wb ⟨hbb, sb, Ab, nb, ccb, rfl, ib⟩; have hBb := below_to HBa.out hbb HBa.out.size; obtain ⟨v0, v1, v2, v3, v4⟩ := KP.out wb hBb; have HBb := Lib.hid hBb; have HIB := Lib.hid ib; clear hbb hBb ib))
        refine behind_ok ⟨⟨v0, v1, v4⟩, ?_⟩
        refine goes_call (i := 7) rfl (by kernel_rfl) ?_
        go_wp2_with (go_at_call 13; go_loud (with_reducible refine (rofH y0 _ (by omega) (by omega)).mono ?_; rintro e wd ⟨hbd, sd, Ad, nd, ccd, rfl, id⟩; have hBd := below_to HBb.out hbd HBb.out.size; obtain ⟨t0, t1, t2, t3, t4⟩ := KP.out wd hBd; have HBd := Lib.hid hBd; have HID := Lib.hid id; have HBD := Lib.hid hbd; clear hbd hBd id))
        refine behind_ok ⟨⟨t0, t1, t4⟩, ?_⟩
        refine goes_call (i := 8) rfl (by kernel_rfl) ?_
        go_wp2_with (go_at_call 15; go_loud (with_reducible refine (rsumH HIB.out HID.out HBD.out (Below.refl _ _) (by omega) (by omega)).mono ?_; rintro e we ⟨hbe, se, Ae, ne, cce, rfl, ie⟩; have hBe := below_to HBd.out hbe HBd.out.size; obtain ⟨z0, z1, z2, z3, z4⟩ := KP.out we hBe; have HBe := Lib.hid hBe; have HIE := Lib.hid ie; clear hbe hBe ie))
        refine behind_ok ⟨⟨z0, z1, z4⟩, ?_⟩
        refine goes_last (i := 9) rfl (by kernel_rfl) (by kernel_rfl) ?_
        go_wp2_with fail
        refine behind_ok (goes_done (by kernel_rfl) ?_)
        go_wp2_with fail
        go_meet
        have hk := HK9.out.below HBe.out og
        refine ⟨se, Ae, ne, cce, hk.duoset _ _, ((HIE.out.past hk _ _).tight (W_grow HIE.out.abs (by omega))), ?_, ?_⟩
        · exact own_set (own_set (own_step HOWN.out HBe.out) (by omega)) (by omega)
        · exact ((below_to HBO.out HBe.out ow).setCell (Nat.le_refl _) _).setCell (Nat.le_refl _) _
        --#endb
       case rest =>
        obtain ⟨s5, A5, n5, c5, hk5, i5, hown5, hb5⟩ := hcut
        obtain ⟨wp, hwp⟩ : ∃ x, x = wc := ⟨_, rfl⟩
        subst hwp
        obtain ⟨R2, hR2⟩ : ∃ R2, R * 65536 + y0 = R2 := ⟨_, rfl⟩
        have hmore := HI.out.more hd0
        rw [hR2] at i5 hmore
        have HR2 := Lib.hid hR2
        have HMO := Lib.hid hmore
        have HOWN5 := Lib.hid hown5
        have op := hb5.size
        have og5 := hk5.lt
        have HB5 := Lib.hid hb5
        have HK5 := Lib.hid hk5
        have HI5 := Lib.hid i5
        have HB8 := Lib.hid (i8.later hb5)
        have hlb := kb.lt
        have KB8 : Hid (∀ w', Below wp.heap.size wp w' → Bk w' g8 24 #[.bool s8, .slice A8 n8 c8]) := Lib.hid fun w' hb' => (kb.below hb5 hlb).below hb' (by omega)
        clear hR2 hmore hown5 r0 r1 fr0 fr1 c70 hk9 iR hbr
        go_wp2
        go_loopw [12, 13] (fun nv bv wr => ∃ (f n : Nat), nv = .int .i64 (n : Int) ∧ bv = .int .i64 ((2 ^ f / 2 : Nat) : Int) ∧ f ≤ 16 ∧ n + 2 ^ f ≤ 65536 ∧ Hid ((y.natAbs : Int) * n ≤ R2 ∧ R2 < (y.natAbs : Int) * ((n + 2 ^ f : Nat) : Int)) ∧ Below wp.heap.size wp wr) (fun _ bv _ => (intOf bv).toNat)
        case atStart => exact ⟨16, 0, rfl, rfl, by omega, by omega, Lib.hid ⟨by have := HMO.out; omega, by have := HMO.out; omega⟩, Below.refl _ _⟩
        case round =>
         obtain ⟨f, n, rfl, rfl, hf, hn, HH, hb⟩ := hrel
         have HBR := Lib.hid hb
         obtain ⟨wi, hwi⟩ : ∃ x, x = wr := ⟨_, rfl⟩
         subst hwi
         have owi := hb.size
         rcases Nat.eq_zero_or_pos f with hf0 | hf0
         · subst hf0
           have c80 : wi.cell? ⟨g8, 0, none⟩ = some (.bool s8) := (KB8.out wi hb).duo.1
           have c81 : wi.cell? ⟨g8, 1, none⟩ = some (.slice A8 n8 c8) := (KB8.out wi hb).duo.2
           have k9 := HK5.out.below hb og5
           have c90 : wi.cell? ⟨wq.heap.size, 0, none⟩ = some (.bool s5) := k9.duo.1
           have c91 : wi.cell? ⟨wq.heap.size, 1, none⟩ = some (.slice A5 n5 c5) := k9.duo.2
           have HH2 : Hid ((y.natAbs : Int) * n ≤ R2 ∧ R2 < (y.natAbs : Int) * ((n : Int) + 1)) := Lib.hid ⟨HH.out.1, by have h := HH.out.2; simpa using h⟩
           clear hb HH k9
           go_upto_region 16 with fail
           refine region_goes (n := 7) (fun w' => w'.cell? ⟨g8, 0, none⟩ = some (.bool s8) ∧ w'.cell? ⟨g8, 1, none⟩ = some (.slice A8 n8 c8) ∧ w'.cell? ⟨wq.heap.size, 0, none⟩ = some (.bool s5) ∧ w'.cell? ⟨wq.heap.size, 1, none⟩ = some (.slice A5 n5 c5)) [6] (by kernel_rfl) rfl ?_
           refine goes_take (i := 0) (v := .agg #[.bool s5, .slice A5 n5 c5]) rfl (by kernel_rfl) rfl (fun _ _ _ h => h) (by intro w' hw'; obtain ⟨x0, x1, x2, x3⟩ := hw'; go_simp) ⟨c80, c81, c90, c91⟩ ?_
           refine goes_take (i := 1) (v := .agg #[.bool s8, .slice A8 n8 c8]) rfl (by kernel_rfl) rfl (fun _ _ _ h => h) (by intro w' hw'; obtain ⟨x0, x1, x2, x3⟩ := hw'; go_simp) ⟨c80, c81, c90, c91⟩ ?_
           refine goes_take (i := 2) (v := .int .i64 (n : Int)) rfl (by kernel_rfl) rfl (fun _ _ _ h => h) (by intro w' hw'; go_simp) ⟨c80, c81, c90, c91⟩ ?_
           refine goes_call (i := 3) rfl (by kernel_rfl) ?_
           go_wp2_with (go_at_call 13; go_loud (with_reducible refine (rofH (n : Int) _ (by omega) (by omega)).mono ?_; rintro e wa ⟨hba, sa, Aa, na, cca, rfl, ia⟩; have hBa := below_to HBR.out (below_drew hba) HBR.out.size; obtain ⟨u0, u1⟩ := (KB8.out wa hBa).duo; obtain ⟨u2, u3⟩ := (HK5.out.below hBa og5).duo; have HBa := Lib.hid hBa; have HIA := Lib.hid ia; clear hba hBa ia))
           refine behind_ok ⟨⟨u0, u1, u2, u3⟩, ?_⟩
           refine goes_call (i := 4) rfl (by kernel_rfl) ?_
           go_wp2_with (go_at_call 19; go_loud (with_reducible refine (rprodH HB8.out HIA.out HBa.out (Below.refl _ _) (by omega) (by omega)).mono ?_; rintro e wb ⟨hbb, sb, Ab, nb, ccb, rfl, ib⟩; have hBb := below_to HBa.out hbb HBa.out.size; obtain ⟨v0, v1⟩ := (KB8.out wb hBb).duo; obtain ⟨v2, v3⟩ := (HK5.out.below hBb og5).duo; have HBb := Lib.hid hBb; have HIB := Lib.hid ib; clear hbb hBb ib))
           refine behind_ok ⟨⟨v0, v1, v2, v3⟩, ?_⟩
           refine goes_call (i := 5) rfl (by kernel_rfl) ?_
           go_wp2_with (go_at_call 17; go_loud (with_reducible refine (rdiffH HI5.out HIB.out HBb.out (Below.refl _ _) (by omega) (by omega)).mono ?_; rintro e we ⟨hbe, se, Ae, ne, cce, rfl, ie⟩; have hBe := below_to HBb.out hbe HBb.out.size; obtain ⟨t0, t1⟩ := (KB8.out we hBe).duo; have hk9e := HK5.out.below hBe og5; obtain ⟨t2, t3⟩ := hk9e.duo; have ft0 := hk9e.frozen 0; have ft1 := hk9e.frozen 1; have HK9E := Lib.hid hk9e; have HBe := Lib.hid hBe; have HIE := Lib.hid ie; clear hbe hBe ie hk9e))
           refine behind_ok ⟨⟨t0, t1, t2, t3⟩, ?_⟩
           refine goes_last (i := 6) rfl (by kernel_rfl) (by kernel_rfl) ?_
           go_wp2_with fail
           refine behind_ok (goes_done (by kernel_rfl) ?_)
           have hRn : (0 : Int) ≤ R2 - (y.natAbs : Int) * n ∧ R2 - (y.natAbs : Int) * n < (y.natAbs : Int) := by
            have h := HH2.out
            rw [Int.mul_add] at h
            omega
           have hky : (y.natAbs : Int).natAbs < W K2 := HB8.out.abs
           have ie2 : IntH ((we.setCell ⟨wq.heap.size, 0, none⟩ (.bool se)).setCell ⟨wq.heap.size, 1, none⟩ (.slice Ae ne cce)) se Ae ne cce (R2 - (y.natAbs : Int) * n) K2 true := (HIE.out.past HK9E.out _ _).tight (by omega)
           have hBw : Below wq.heap.size wq ((we.setCell ⟨wq.heap.size, 0, none⟩ (.bool se)).setCell ⟨wq.heap.size, 1, none⟩ (.slice Ae ne cce)) := ((below_to HB5.out HBe.out op).setCell (Nat.le_refl _) _).setCell (Nat.le_refl _) _
           have hOw : ((we.setCell ⟨wq.heap.size, 0, none⟩ (.bool se)).setCell ⟨wq.heap.size, 1, none⟩ (.slice Ae ne cce)).ownsRow (wq.heap.size + 1) 3 1 (.slice Aq q cq) q (i64s qs) := own_set (own_set (own_step HOWN5.out HBe.out) (by omega)) (by omega)
           have hKw := HK9E.out.duoset (.bool se) (.slice Ae ne cce)
           have hsz : we.heap.size ≤ ((we.setCell ⟨wq.heap.size, 0, none⟩ (.bool se)).setCell ⟨wq.heap.size, 1, none⟩ (.slice Ae ne cce)).heap.size := by simp [World.setCell]
           generalize ((we.setCell ⟨wq.heap.size, 0, none⟩ (.bool se)).setCell ⟨wq.heap.size, 1, none⟩ (.slice Ae ne cce)) = W9 at ie2 hBw hOw hKw hsz ⊢
           have HIE2 := Lib.hid ie2
           have HBW9 := Lib.hid hBw
           have HOW9 := Lib.hid hOw
           have HKW9 := Lib.hid hKw
           have oz9 := hKw.lt
           have hql : q ≤ 2 * K1 := by have h := HI.out.len; rw [HLA.out, HQ.out] at h; omega
           have hn2 : n ≤ 65535 := by omega
           clear ie2 hBw hOw hKw c80 c81 c90 c91
           go_wp2_with (at_builtin; go_loud (refine wpList_append_own_row rfl _ _ _ rfl (wq.heap.size + 1) 3 i0 _ 1 8 Tryz.underlying79 HI0.out HZ0.out HZ1.out HZ2.out rfl (by omega) _ 1 [.int .i64 (n : Int)] rfl (World.ownsRow_lit W9 #[.int .i64 (n : Int)] 1 (by omega) (by unfold maxLen; omega) rfl) (wq.heap.size + 1) 3 _ _ _ _ rfl (HOW9.out.alloc _) (i64s_one _) (by unfold maxLen; omega) (by omega) (by simp; omega) ?_; intro v1 w9 hown9 hg9; have HO9 := Lib.hid hown9; have HG9 := Lib.hid hg9; clear hown9 hg9))
           have hb9 : Below W9.heap.size W9 w9 := ((Below.refl _ _).alloc (Nat.le_refl _) _).grown HG9.out (by simp) (fun k hk => Nat.le_of_eq (Option.some.inj hk))
           have hnx : DivI ca (y.natAbs : Int) jj ((n : Int) :: qs) (R2 - (y.natAbs : Int) * n) := by
            have h := HI.out.next HY0.out (n := (n : Int)) (by omega) (by rw [HR2.out]; exact HH2.out.1) (by rw [HR2.out]; exact HH2.out.2)
            rwa [HR2.out] at h
           refine ⟨⟨jj, 1 + q, (n : Int) :: qs, R2 - (y.natAbs : Int) * n, se, Ae, ne, cce, rfl, hnx, by rw [List.length_cons, HQ.out]; omega, ?_, HKW9.out.below hb9 oz9, HIE2.out.later hb9, below_to HBW9.out hb9 (by omega)⟩, by (simp [intOf] <;> omega)⟩
           exact HO9.out
         · obtain ⟨g, rfl⟩ : ∃ g, f = g + 1 := ⟨f - 1, by omega⟩
           obtain ⟨P, hP⟩ : ∃ P, 2 ^ g = P := ⟨_, rfl⟩
           have hP1 : 1 ≤ P := by rw [← hP]; exact Nat.one_le_two_pow
           have e2 : 2 ^ (g + 1) = 2 * P := by rw [Nat.pow_succ, hP]; omega
           rw [e2] at hn HH
           have e3 : 2 ^ (g + 1) / 2 = P := by rw [e2]; omega
           rw [e3]
           have HP := Lib.hid hP
           have c80 : wi.cell? ⟨g8, 0, none⟩ = some (.bool s8) := (KB8.out wi hb).duo.1
           have c81 : wi.cell? ⟨g8, 1, none⟩ = some (.slice A8 n8 c8) := (KB8.out wi hb).duo.2
           have c90 : wi.cell? ⟨wq.heap.size, 0, none⟩ = some (.bool s5) := (HK5.out.below hb og5).duo.1
           have c91 : wi.cell? ⟨wq.heap.size, 1, none⟩ = some (.slice A5 n5 c5) := (HK5.out.below hb og5).duo.2
           clear hb e2 e3 hP
           rcases Int.lt_or_le R2 ((y.natAbs : Int) * ((n : Int) + (P : Int))) with hlt | hle
           · have hC : cmpI ((y.natAbs : Int) * ((n : Int) + (P : Int))) R2 = 1 := cmpI_gt hlt
             (
              go_upto_region 14 with fail
              refine region_goes (n := 9) (fun w' => w'.cell? ⟨g8, 0, none⟩ = some (.bool s8) ∧ w'.cell? ⟨g8, 1, none⟩ = some (.slice A8 n8 c8) ∧ w'.cell? ⟨wq.heap.size, 0, none⟩ = some (.bool s5) ∧ w'.cell? ⟨wq.heap.size, 1, none⟩ = some (.slice A5 n5 c5)) [] (by kernel_rfl) rfl ?_
              refine goes_take (i := 0) (v := .agg #[.bool s8, .slice A8 n8 c8]) rfl (by kernel_rfl) rfl (fun _ _ _ h => h) (by intro w' hw'; obtain ⟨x0, x1, x2⟩ := hw'; go_simp) ⟨c80, c81, c90, c91⟩ ?_
              refine goes_take (i := 1) (v := .int .i64 (n : Int)) rfl (by kernel_rfl) rfl (fun _ _ _ h => h) (by intro w' hw'; go_simp) ⟨c80, c81, c90, c91⟩ ?_
              refine goes_take (i := 2) (v := .int .i64 (P : Int)) rfl (by kernel_rfl) rfl (fun _ _ _ h => h) (by intro w' hw'; go_simp) ⟨c80, c81, c90, c91⟩ ?_
              refine goes_take (i := 3) (v := .int .i64 ((n : Int) + (P : Int))) rfl (by kernel_rfl) rfl (fun _ _ _ h => h) (by intro w' hw'; go_simp; exact IntWalk.i64_in _ (by omega)) ⟨c80, c81, c90, c91⟩ ?_
              refine goes_take (i := 6) (v := .agg #[.bool s5, .slice A5 n5 c5]) rfl (by kernel_rfl) rfl (fun _ _ _ h => h) (by intro w' hw'; obtain ⟨x0, x1, x2, x3⟩ := hw'; go_simp) ⟨c80, c81, c90, c91⟩ ?_
              refine goes_call (i := 4) rfl (by kernel_rfl) ?_
              go_wp2_with (go_at_call 13; go_loud (with_reducible refine (rofH ((n : Int) + (P : Int)) _ (by omega) (by omega)).mono ?_; rintro e wa ⟨hba, sa, Aa, na, cca, rfl, ia⟩; have hBa := below_to HBR.out (below_drew hba) HBR.out.size; obtain ⟨u0, u1⟩ := (KB8.out wa hBa).duo; obtain ⟨u2, u3⟩ := (HK5.out.below hBa og5).duo; have HBa := Lib.hid hBa; have HIA := Lib.hid ia; clear hba hBa ia))
              refine behind_ok ⟨⟨u0, u1, u2, u3⟩, ?_⟩
              refine goes_call (i := 5) rfl (by kernel_rfl) ?_
              go_wp2_with (go_at_call 19; go_loud (with_reducible refine (rprodH HB8.out HIA.out HBa.out (Below.refl _ _) (by omega) (by omega)).mono ?_; rintro e wb ⟨hbb, sb, Ab, nb, ccb, rfl, ib⟩; have hBb := below_to HBa.out hbb HBa.out.size; obtain ⟨v0, v1⟩ := (KB8.out wb hBb).duo; obtain ⟨v2, v3⟩ := (HK5.out.below hBb og5).duo; have HBb := Lib.hid hBb; have HIB := Lib.hid ib; clear hbb hBb ib))
              refine behind_ok ⟨⟨v0, v1, v2, v3⟩, ?_⟩
              refine goes_call (i := 7) rfl (by kernel_rfl) ?_
              go_wp2_with (go_at_call 23; go_loud (with_reducible refine (rcmpH HIB.out HI5.out (Below.refl _ _) HBb.out (by omega) (by omega) hC).mono ?_; rintro e wd ⟨hbd, rfl⟩; have hBd := below_to HBb.out hbd HBb.out.size; obtain ⟨t0, t1⟩ := (KB8.out wd hBd).duo; obtain ⟨t2, t3⟩ := (HK5.out.below hBd og5).duo; have HBd := Lib.hid hBd; clear hbd hBd))
              refine behind_ok ⟨⟨t0, t1, t2, t3⟩, ?_⟩
              refine goes_call (i := 8) rfl (by kernel_rfl) ?_
              go_wp2_with fail
              refine behind_ok ⟨⟨t0, t1, t2, t3⟩, ?_⟩
              refine goes_done (by kernel_rfl) ?_
              go_wp2)
             exact ⟨⟨g, n, rfl, congrArg (Value.int .i64) (by rw [HP.out]; omega), by omega, by rw [HP.out]; omega, Lib.hid ⟨HH.out.1, by rw [HP.out, Int.natCast_add]; exact hlt⟩, HBd.out⟩, by (simp [intOf]; omega)⟩
           · obtain ⟨C2, hC2⟩ : ∃ C2, cmpI ((y.natAbs : Int) * ((n : Int) + (P : Int))) R2 = C2 := ⟨_, rfl⟩
             have hC3 : C2 ≤ 0 := by
              rw [← hC2]
              rcases Int.lt_or_eq_of_le hle with h | h
              · rw [cmpI_lt h]; omega
              · rw [cmpI_eq h]; omega
             (
              go_upto_region 14 with fail
              refine region_goes (n := 9) (fun w' => w'.cell? ⟨g8, 0, none⟩ = some (.bool s8) ∧ w'.cell? ⟨g8, 1, none⟩ = some (.slice A8 n8 c8) ∧ w'.cell? ⟨wq.heap.size, 0, none⟩ = some (.bool s5) ∧ w'.cell? ⟨wq.heap.size, 1, none⟩ = some (.slice A5 n5 c5)) [] (by kernel_rfl) rfl ?_
              refine goes_take (i := 0) (v := .agg #[.bool s8, .slice A8 n8 c8]) rfl (by kernel_rfl) rfl (fun _ _ _ h => h) (by intro w' hw'; obtain ⟨x0, x1, x2⟩ := hw'; go_simp) ⟨c80, c81, c90, c91⟩ ?_
              refine goes_take (i := 1) (v := .int .i64 (n : Int)) rfl (by kernel_rfl) rfl (fun _ _ _ h => h) (by intro w' hw'; go_simp) ⟨c80, c81, c90, c91⟩ ?_
              refine goes_take (i := 2) (v := .int .i64 (P : Int)) rfl (by kernel_rfl) rfl (fun _ _ _ h => h) (by intro w' hw'; go_simp) ⟨c80, c81, c90, c91⟩ ?_
              refine goes_take (i := 3) (v := .int .i64 ((n : Int) + (P : Int))) rfl (by kernel_rfl) rfl (fun _ _ _ h => h) (by intro w' hw'; go_simp; exact IntWalk.i64_in _ (by omega)) ⟨c80, c81, c90, c91⟩ ?_
              refine goes_take (i := 6) (v := .agg #[.bool s5, .slice A5 n5 c5]) rfl (by kernel_rfl) rfl (fun _ _ _ h => h) (by intro w' hw'; obtain ⟨x0, x1, x2, x3⟩ := hw'; go_simp) ⟨c80, c81, c90, c91⟩ ?_
              refine goes_call (i := 4) rfl (by kernel_rfl) ?_
              go_wp2_with (go_at_call 13; go_loud (with_reducible refine (rofH ((n : Int) + (P : Int)) _ (by omega) (by omega)).mono ?_; rintro e wa ⟨hba, sa, Aa, na, cca, rfl, ia⟩; have hBa := below_to HBR.out (below_drew hba) HBR.out.size; obtain ⟨u0, u1⟩ := (KB8.out wa hBa).duo; obtain ⟨u2, u3⟩ := (HK5.out.below hBa og5).duo; have HBa := Lib.hid hBa; have HIA := Lib.hid ia; clear hba hBa ia))
              refine behind_ok ⟨⟨u0, u1, u2, u3⟩, ?_⟩
              refine goes_call (i := 5) rfl (by kernel_rfl) ?_
              go_wp2_with (go_at_call 19; go_loud (with_reducible refine (rprodH HB8.out HIA.out HBa.out (Below.refl _ _) (by omega) (by omega)).mono ?_; rintro e wb ⟨hbb, sb, Ab, nb, ccb, rfl, ib⟩; have hBb := below_to HBa.out hbb HBa.out.size; obtain ⟨v0, v1⟩ := (KB8.out wb hBb).duo; obtain ⟨v2, v3⟩ := (HK5.out.below hBb og5).duo; have HBb := Lib.hid hBb; have HIB := Lib.hid ib; clear hbb hBb ib))
              refine behind_ok ⟨⟨v0, v1, v2, v3⟩, ?_⟩
              refine goes_call (i := 7) rfl (by kernel_rfl) ?_
              go_wp2_with (go_at_call 23; go_loud (with_reducible refine (rcmpH HIB.out HI5.out (Below.refl _ _) HBb.out (by omega) (by omega) hC2).mono ?_; rintro e wd ⟨hbd, rfl⟩; have hBd := below_to HBb.out hbd HBb.out.size; obtain ⟨t0, t1⟩ := (KB8.out wd hBd).duo; obtain ⟨t2, t3⟩ := (HK5.out.below hBd og5).duo; have HBd := Lib.hid hBd; clear hbd hBd))
              refine behind_ok ⟨⟨t0, t1, t2, t3⟩, ?_⟩
              refine goes_call (i := 8) rfl (by kernel_rfl) ?_
              go_wp2_with fail
              refine behind_ok ⟨⟨t0, t1, t2, t3⟩, ?_⟩
              refine goes_done (by kernel_rfl) ?_
              go_wp2)
             exact ⟨⟨g, n + P, congrArg (Value.int .i64) (by omega), congrArg (Value.int .i64) (by rw [HP.out]; omega), by omega, by rw [HP.out]; omega, Lib.hid ⟨by rw [Int.natCast_add]; exact hle, by rw [HP.out, show n + P + P = n + 2 * P by omega]; exact HH.out.2⟩, HBd.out⟩, by (simp [intOf]; omega)⟩
       --#endc
end
end Go.Proofs.YthlfhfkfjefidaaGreat
