/- Chapter 8, walks: Normal, Count, Total of the program. -/
import Derived.Test.YtmcefodfppdajaaEntr8
namespace Go.Proofs.Ytmcefodfppdajaa
open Go.RowKit Go.Maps Go.Deep

theorem size_drw (w : World) : w.drew.heap.size = w.heap.size := rfl
theorem fin_cnt {l : List Q4} (hs : ∀ x ∈ l, x.s.size ≤ 30) (hv : ∀ x ∈ l, sE x = 0) : Fin_ (cntS l) := fun k hk => by
  by_cases h : ∃ x ∈ l, keyQ x = k
  · obtain ⟨x, hx, rfl⟩ := h
    exact (sE_sh (hv x hx) (hs x hx)).1
  · exact absurd (cntS_none fun x hx e => h ⟨x, hx, e⟩) hk
set_option maxRecDepth 100000 in
set_option maxHeartbeats 8000000 in
theorem normal_bad (A : Option Addr) (n ca : Nat) (l : List Q4) (w : World) (h : Rws Q4.cs 4 w w.heap.size A n ca l) (hs : ∀ x ∈ l, x.s.size ≤ 30) (h0 : stockErr l ≠ 0) :
    Calls Try.prog 14 #[.slice A n ca] w fun e w' => Below w.heap.size w w' ∧ e = .returned (.tuple #[.slice none 0 0, .int .i64 (stockErr l)]) := by
  have hcap := h.cap
  have hmax := h.max
  have HLEN := Lib.hid h.len
  have H : Hid (∀ w', Below w.heap.size w w' → Rws Q4.cs 4 w' w.heap.size A n ca l) := fun w' hb => h.below hb (Nat.le_refl _) (Nat.le_refl _)
  have CK : Hid (∀ W, Below w.heap.size w W → Calls Try.prog 18 #[.slice A n ca] W fun e w' => Below W.heap.size W w' ∧ e = .returned (.int .i64 (stockErr l))) := Lib.hid fun W hW => check_any A n ca l W (h.below hW (Nat.le_refl _) hW.size) hs
  obtain ⟨E, hE⟩ : ∃ E, stockErr l = E := ⟨_, rfl⟩
  have hq : (E != 0) = true := by rw [← hE]; simpa using h0
  rw [hE]
  rw [hE] at CK
  clear hE h0 h hs
  go_enter Try.func14, Try.ntmps14
  go_wp2_with (go_at_call 18; with_reducible refine (CK.out _ (Below.refl _ _)).mono ?_; rintro e w1 ⟨hb1, rfl⟩; have HB1 := Lib.hid hb1; clear hb1)
  go_ret2
  exact ⟨HB1.out, rfl⟩
set_option maxRecDepth 100000 in
set_option maxHeartbeats 8000000 in
theorem normal_many (A : Option Addr) (n ca : Nat) (l : List Q4) (w : World) (h : Rws Q4.cs 4 w w.heap.size A n ca l) (hs : ∀ x ∈ l, x.s.size ≤ 30) (h0 : stockErr l = 0) (hm : manyB (cntS l) = true) :
    Calls Try.prog 14 #[.slice A n ca] w fun e w' => Below w.heap.size w w' ∧ e = .returned (.tuple #[.slice none 0 0, .int .i64 8]) := by
  have hcap := h.cap
  have hmax := h.max
  have HLEN := Lib.hid h.len
  have H : Hid (∀ w', Below w.heap.size w w' → Rws Q4.cs 4 w' w.heap.size A n ca l) := fun w' hb => h.below hb (Nat.le_refl _) (Nat.le_refl _)
  have CK : Hid (∀ W, Below w.heap.size w W → Calls Try.prog 18 #[.slice A n ca] W fun e w' => Below W.heap.size W w' ∧ e = .returned (.int .i64 (stockErr l))) := Lib.hid fun W hW => check_any A n ca l W (h.below hW (Nat.le_refl _) hW.size) hs
  have SO : Hid (∀ W, Below w.heap.size w W → Calls Try.prog 53 #[.slice A n ca] W fun e w' => Below W.heap.size W w' ∧ e = .returned (.map (some W.heap.size)) ∧ ShM w' W.heap.size n (cntS l)) := Lib.hid fun W hW => shelvesOf_any A n ca l W (h.below hW (Nat.le_refl _) hW.size) hs (stock_all h0).2 (by have := (stock_all h0).1; have := h.len; omega)
  rw [h0] at CK
  have HMY := Lib.hid hm
  clear h0 h hs hm
  go_enter Try.func14, Try.ntmps14
  go_wp2_with (first | (go_at_call 18; with_reducible refine (CK.out _ (Below.refl _ _)).mono ?_; rintro e w1 ⟨hb1, rfl⟩; have HB1 := Lib.hid hb1; have ow1 := hb1.size; clear hb1) | (go_at_call 53; with_reducible refine (SO.out _ HB1.out).mono ?_; rintro e w2 ⟨hb2, rfl, hm2⟩; have HM2 := Lib.hid hm2; have HB2 : Hid (Below w.heap.size w w2) := Lib.hid (HB1.out.trans (hb2.mono HB1.out.size)); have ow2 := hb2.size; clear hb2 hm2) | (go_at_call 54; with_reducible refine (areTooMany_any _ _ _ _ HM2.out).mono ?_; rw [HMY.out]; rintro e w3 ⟨hb3, rfl⟩; have HM3 := Lib.hid (HM2.out.below hb3); have HB3 : Hid (Below w.heap.size w w3) := Lib.hid (HB2.out.trans (hb3.mono HB2.out.size)); have ow3 := hb3.size; clear hb3))
  go_ret2
  exact ⟨HB3.out, rfl⟩
set_option maxRecDepth 100000 in
set_option maxHeartbeats 8000000 in
theorem normal_ok (A : Option Addr) (n ca : Nat) (l : List Q4) (w : World) (h : Rws Q4.cs 4 w w.heap.size A n ca l) (hs : ∀ x ∈ l, x.s.size ≤ 30) (h0 : stockErr l = 0) (hm : manyB (cntS l) = false) :
    Calls Try.prog 14 #[.slice A n ca] w fun e w' => Below w.heap.size w w' ∧ ∃ (v : Value) (L : List Q4), e = .returned (.tuple #[v, .int .i64 0]) ∧ NF L (cntS l) ∧ w'.ownsRow w.heap.size 103 4 v L.length (L.flatMap Q4.cs) := by
  have hcap := h.cap
  have hmax := h.max
  have HLEN := Lib.hid h.len
  have H : Hid (∀ w', Below w.heap.size w w' → Rws Q4.cs 4 w' w.heap.size A n ca l) := fun w' hb => h.below hb (Nat.le_refl _) (Nat.le_refl _)
  have CK : Hid (∀ W, Below w.heap.size w W → Calls Try.prog 18 #[.slice A n ca] W fun e w' => Below W.heap.size W w' ∧ e = .returned (.int .i64 (stockErr l))) := Lib.hid fun W hW => check_any A n ca l W (h.below hW (Nat.le_refl _) hW.size) hs
  have SO : Hid (∀ W, Below w.heap.size w W → Calls Try.prog 53 #[.slice A n ca] W fun e w' => Below W.heap.size W w' ∧ e = .returned (.map (some W.heap.size)) ∧ ShM w' W.heap.size n (cntS l)) := Lib.hid fun W hW => shelvesOf_any A n ca l W (h.below hW (Nat.le_refl _) hW.size) hs (stock_all h0).2 (by have := (stock_all h0).1; have := h.len; omega)
  rw [h0] at CK
  have HMY := Lib.hid hm
  have HFN := Lib.hid (fin_cnt hs (stock_all h0).2)
  have hn : n ≤ 200 := by have := (stock_all h0).1; have := h.len; omega
  clear h0 h hs hm
  go_enter Try.func14, Try.ntmps14
  go_wp2_with (first | (go_at_call 18; with_reducible refine (CK.out _ (Below.refl _ _)).mono ?_; rintro e w1 ⟨hb1, rfl⟩; have HB1 := Lib.hid hb1; have ow1 := hb1.size; clear hb1) | (go_at_call 53; with_reducible refine (SO.out _ HB1.out).mono ?_; rintro e w2 ⟨hb2, rfl, hm2⟩; have HM2 := Lib.hid hm2; have HB2 : Hid (Below w.heap.size w w2) := Lib.hid (HB1.out.trans (hb2.mono HB1.out.size)); have ow2 := hb2.size; clear hb2 hm2) | (go_at_call 54; with_reducible refine (areTooMany_any _ _ _ _ HM2.out).mono ?_; rw [HMY.out]; rintro e w3 ⟨hb3, rfl⟩; have HM3 := Lib.hid (HM2.out.below hb3); have HB3 : Hid (Below w.heap.size w w3) := Lib.hid (HB2.out.trans (hb3.mono HB2.out.size)); have ow3 := hb3.size; clear hb3) | (go_at_call 55; with_reducible refine (entries_any _ _ _ _ HM3.out HFN.out (by omega)).mono ?_; rintro e w4 ⟨hb4, v, L, rfl, hnf, ho4⟩; have HNF := Lib.hid hnf; have HO4 := Lib.hid ho4; have HB4 : Hid (Below w.heap.size w w4) := Lib.hid (HB3.out.trans (hb4.mono HB3.out.size)); clear hb4 hnf ho4))
  go_ret2
  exact ⟨HB4.out, v, L, rfl, HNF.out, own_base HO4.out (by omega)⟩

set_option maxRecDepth 100000 in
set_option maxHeartbeats 8000000 in
theorem count_bad (A : Option Addr) (n ca : Nat) (l : List Q4) (part : ByteArray) (x y : Int) (w : World) (h : Rws Q4.cs 4 w w.heap.size A n ca l) (hs : ∀ x ∈ l, x.s.size ≤ 30) (h0 : stockErr l ≠ 0) :
    Calls Try.prog 15 #[.slice A n ca, .string part, .agg #[.int .i64 x, .int .i64 y]] w fun e w' => Below w.heap.size w w' ∧ e = .returned (.tuple #[.int .i64 0, .int .i64 (stockErr l)]) := by
  have hcap := h.cap
  have hmax := h.max
  have HLEN := Lib.hid h.len
  have H : Hid (∀ w', Below w.heap.size w w' → Rws Q4.cs 4 w' w.heap.size A n ca l) := fun w' hb => h.below hb (Nat.le_refl _) (Nat.le_refl _)
  have CK : Hid (∀ W, Below w.heap.size w W → Calls Try.prog 18 #[.slice A n ca] W fun e w' => Below W.heap.size W w' ∧ e = .returned (.int .i64 (stockErr l))) := Lib.hid fun W hW => check_any A n ca l W (h.below hW (Nat.le_refl _) hW.size) hs
  obtain ⟨E, hE⟩ : ∃ E, stockErr l = E := ⟨_, rfl⟩
  have hq : (E != 0) = true := by rw [← hE]; simpa using h0
  rw [hE]
  rw [hE] at CK
  clear hE h0 h hs
  go_enter Try.func15, Try.ntmps15
  go_wp2_with (go_at_call 18; with_reducible refine (CK.out _ (by repeat (first | with_reducible exact Below.refl _ _ | with_reducible assumption | with_reducible refine Below.drew ?_ | with_reducible refine Below.drewN ?_ _ | with_reducible refine Below.alloc2 ?_ _ | with_reducible refine Below.alloc ?_ (by first | omega | (simp <;> omega)) _ | with_reducible refine Below.setCell ?_ (by first | omega | (simp <;> omega)) _ | with_reducible refine Below.step2 (by with_reducible assumption) ?_ | with_reducible refine Below.step (by with_reducible assumption) ?_ (by first | omega | (simp <;> omega))))).mono ?_; rintro e w1 ⟨hb1, rfl⟩; have HB1 : Hid (Below w.heap.size w w1) := Lib.hid (((Below.refl _ w).alloc (Nat.le_refl _) _).trans (hb1.mono (by simp))); clear hb1)
  go_ret2
  exact ⟨HB1.out, rfl⟩
set_option maxRecDepth 100000 in
set_option maxHeartbeats 8000000 in
theorem count_ok (A : Option Addr) (n ca : Nat) (l : List Q4) (part : ByteArray) (x y : Int) (w : World) (h : Rws Q4.cs 4 w w.heap.size A n ca l) (hs : ∀ x ∈ l, x.s.size ≤ 30) (h0 : stockErr l = 0) (hk : shOk (part, x, y)) :
    Calls Try.prog 15 #[.slice A n ca, .string part, .agg #[.int .i64 x, .int .i64 y]] w fun e w' => Below w.heap.size w w' ∧ e = .returned (.tuple #[.int .i64 (cntS l (part, x, y)), .int .i64 0]) := by
  have hcap := h.cap
  have hmax := h.max
  have HLEN := Lib.hid h.len
  have H : Hid (∀ w', Below w.heap.size w w' → Rws Q4.cs 4 w' w.heap.size A n ca l) := fun w' hb => h.below hb (Nat.le_refl _) (Nat.le_refl _)
  have CK : Hid (∀ W, Below w.heap.size w W → Calls Try.prog 18 #[.slice A n ca] W fun e w' => Below W.heap.size W w' ∧ e = .returned (.int .i64 (stockErr l))) := Lib.hid fun W hW => check_any A n ca l W (h.below hW (Nat.le_refl _) hW.size) hs
  have SO : Hid (∀ W, Below w.heap.size w W → Calls Try.prog 53 #[.slice A n ca] W fun e w' => Below W.heap.size W w' ∧ e = .returned (.map (some W.heap.size)) ∧ ShM w' W.heap.size n (cntS l)) := Lib.hid fun W hW => shelvesOf_any A n ca l W (h.below hW (Nat.le_refl _) hW.size) hs (stock_all h0).2 (by have := (stock_all h0).1; have := h.len; omega)
  rw [h0] at CK
  have HK := Lib.hid hk
  obtain ⟨R, hR⟩ : ∃ R, cntS l (part, x, y) = R := ⟨_, rfl⟩
  have HX : Hid ((nz (cntS l) (part, x, y)).getD 0 = R) := Lib.hid (by rw [nz_getD, hR])
  rw [hR]
  clear h0 h hs hk hR
  go_enter Try.func15, Try.ntmps15
  go_wp2_with (go_at_call 18; with_reducible refine (CK.out _ (by repeat (first | with_reducible exact Below.refl _ _ | with_reducible assumption | with_reducible refine Below.drew ?_ | with_reducible refine Below.drewN ?_ _ | with_reducible refine Below.alloc2 ?_ _ | with_reducible refine Below.alloc ?_ (by first | omega | (simp <;> omega)) _ | with_reducible refine Below.setCell ?_ (by first | omega | (simp <;> omega)) _ | with_reducible refine Below.step2 (by with_reducible assumption) ?_ | with_reducible refine Below.step (by with_reducible assumption) ?_ (by first | omega | (simp <;> omega))))).mono ?_; rintro e w1 ⟨hb1, rfl⟩; have HB1 : Hid (Below w.heap.size w w1) := Lib.hid (((Below.refl _ w).alloc (Nat.le_refl _) _).trans (hb1.mono (by simp))); have HA1 : Hid (Bk w1 w.heap.size 23 #[.int .i64 x, .int .i64 y]) := Lib.hid ((Bk.at_ rfl).below hb1 (by simp)); obtain ⟨⟨u0, u1⟩, -⟩ := HA1.out.two; clear hb1)
  have ows : w.heap.size ≤ w1.drew.heap.size := HB1.out.size
  have HBd : Hid (Below w.heap.size w w1.drew) := Lib.hid HB1.out.drew
  have HAd : Hid (Bk w1.drew w.heap.size 23 #[.int .i64 x, .int .i64 y]) := HA1
  have olt : w.heap.size < w1.drew.heap.size := HA1.out.lt
  go_region_held3 (fun w' => w'.cell? ⟨w.heap.size, 0, none⟩ = some (.int .i64 x) ∧ w'.cell? ⟨w.heap.size, 1, none⟩ = some (.int .i64 y)) (go_keep)
    ((go_at_call 53; go_loud (with_reducible refine (SO.out _ HBd.out).mono ?_; rintro e w2 ⟨hb2, rfl, hm2⟩; have HB2 : Hid (Below w.heap.size w w2) := Lib.hid (HBd.out.trans (hb2.mono ows)); obtain ⟨⟨v0, v1⟩, -⟩ := (HAd.out.below hb2 olt).two; have e5 := hm2.look (sh_keys w) Try.underlying110 Try.underlying3 (zero_int _) HK.out; rw [HX.out, size_drw] at e5; dsimp only [shV] at e5; clear hb2 hm2)))
  all_goals
    go_wp2
    go_ret2
    exact ⟨HB2.out, rfl⟩

end Go.Proofs.Ytmcefodfppdajaa
