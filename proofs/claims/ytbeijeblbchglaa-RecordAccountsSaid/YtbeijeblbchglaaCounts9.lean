/- Chapter 9, walks: Counts of the reference. -/
import Derived.Test.YtbeijeblbchglaaMoves9
namespace Go.Proofs.Ytbeijeblbchglaa
open Go.RowKit

/-- How many pieces of a part were moved by a kind of moves. -/
def cnt (k : Int) (l : List Mv) (p : ByteArray) : Int := (l.map fun x => if eqS x.p p && decide (x.k = k) then x.n else 0).sum
theorem cnt_step {l : List Mv} {j : Nat} {x : Mv} (hx : l[j]? = some x) (k : Int) (p : ByteArray) : cnt k (l.take (j + 1)) p = cnt k (l.take j) p + if eqS x.p p && decide (x.k = k) then x.n else 0 := by
  rw [take_step hx]
  simp [cnt]
def okM (x : Mv) : Bool := inR 0 2 x.k && inR 1 100000 x.n
theorem stock_cons (x : Mv) (l : List Mv) (p : ByteArray) : stock (x :: l) p = (if eqS x.p p then gn x else 0) + stock l p := by simp [stock]
theorem cnt_cons (k : Int) (x : Mv) (l : List Mv) (p : ByteArray) : cnt k (x :: l) p = (if eqS x.p p && decide (x.k = k) then x.n else 0) + cnt k l p := by simp [cnt]
theorem stock_cnt : ∀ (l : List Mv) (p : ByteArray), l.all okM = true → stock l p = cnt 0 l p - cnt 1 l p - cnt 2 l p
  | [], p, _ => by simp [stock, cnt]
  | x :: l, p, h => by
    simp only [List.all_cons, Bool.and_eq_true] at h
    have ih := stock_cnt l p h.2
    have hk := h.1
    unfold okM at hk
    simp only [Bool.and_eq_true] at hk
    have h1 := inR_iff.1 hk.1
    rw [stock_cons, cnt_cons, cnt_cons, cnt_cons]
    cases he : eqS x.p p
    · simp
      omega
    · obtain h2 | h2 | h2 : x.k = 0 ∨ x.k = 1 ∨ x.k = 2 := by omega
      all_goals
        simp [h2, gn]
        omega
theorem cnt_bd : ∀ (l : List Mv) (k : Int) (p : ByteArray), l.all okM = true → 0 ≤ cnt k l p ∧ cnt k l p ≤ 100000 * (l.length : Int)
  | [], k, p, _ => by simp [cnt]
  | x :: l, k, p, h => by
    simp only [List.all_cons, Bool.and_eq_true] at h
    have ih := cnt_bd l k p h.2
    have hk := h.1
    unfold okM at hk
    simp only [Bool.and_eq_true] at hk
    have h1 := inR_iff.1 hk.2
    simp only [cnt, List.map_cons, List.sum_cons, List.length_cons] at ih ⊢
    split <;> omega
theorem all_take {α : Type} {p : α → Bool} {l : List α} (h : l.all p = true) (k : Nat) : (l.take k).all p = true := List.all_eq_true.2 fun x hx => List.all_eq_true.1 h x (List.mem_of_mem_take hx)
theorem Bk.threec {w : World} {g t : Nat} {a b c : Value} (h : Bk w g t #[a, b, c]) : w.cell? ⟨g, 0, none⟩ = some a ∧ w.cell? ⟨g, 1, none⟩ = some b ∧ w.cell? ⟨g, 2, none⟩ = some c :=
  ⟨by simpa using h.cell 0, by simpa using h.cell 1, by simpa using h.cell 2⟩
theorem info_arr3 : (Try.prog.info? 57).map (fun i => (i.zero, i.size, i.bytes)) = some (some (.agg #[.int .i64 0, .int .i64 0, .int .i64 0]), 3, 24) := by kernel_rfl
set_option maxRecDepth 100000 in
set_option maxHeartbeats 16000000 in
theorem counts_any (A : Option Addr) (n c : Nat) (l : List Mv) (p : ByteArray) (w : World) (h : Rws Mv.cs 4 w w.heap.size A n c l) (hok : l.all okM = true) (hn : n ≤ 300) :
    Calls Try.prog 29 #[.slice A n c, .string p] w fun e w' => Below w.heap.size w w' ∧ e = .returned (.agg #[.int .i64 (cnt 0 l p), .int .i64 (cnt 1 l p), .int .i64 (cnt 2 l p)]) := by
  have hcap := h.cap
  have hmax := h.max
  have HLEN := Lib.hid h.len
  have HOK := Lib.hid hok
  have H : Hid (∀ w', Below w.heap.size w w' → Rws Mv.cs 4 w' w.heap.size A n c l) := fun w' hb => h.below hb (Nat.le_refl _) (Nat.le_refl _)
  have HBD : Hid (∀ j k, 0 ≤ cnt k (l.take j) p ∧ cnt k (l.take j) p ≤ 30000000) := Lib.hid fun j k => by
    have := cnt_bd (l.take j) k p (all_take hok j)
    have h2 : (l.take j).length ≤ 300 := by rw [List.length_take, h.len]; omega
    omega
  clear h hok
  go_enter Try.func29, Try.ntmps29
  go_wp2
  go_loopw [6] (fun i wr => ∃ k : Nat, k ≤ n ∧ i = .int .i64 k ∧ ∃ x0 x1 x2, Hid (cnt 0 (l.take k) p = x0 ∧ cnt 1 (l.take k) p = x1 ∧ cnt 2 (l.take k) p = x2) ∧ Bk wr w.heap.size 57 #[.int .i64 0, .int .i64 0, .int .i64 0] ∧ Bk wr (w.heap.size + 1) 57 #[.int .i64 x0, .int .i64 x1, .int .i64 x2] ∧ Below w.heap.size w wr) (fun i _ => n - (intOf i).toNat)
  case atStart => exact ⟨0, Nat.zero_le _, rfl, 0, 0, 0, Lib.hid (by simp [cnt]), (by repeat (first | with_reducible assumption | with_reducible exact Bk.at_ (by first | (simp; done) | omega) | with_reducible refine Bk.alloc ?_ _ | with_reducible refine Bk.drew ?_ | with_reducible refine Bk.drewN ?_ _ | with_reducible refine Bk.step (by with_reducible assumption) ?_ (by first | omega | (simp <;> omega)))), (by repeat (first | with_reducible assumption | with_reducible exact Bk.at_ (by first | (simp; done) | omega) | with_reducible refine Bk.alloc ?_ _ | with_reducible refine Bk.drew ?_ | with_reducible refine Bk.drewN ?_ _ | with_reducible refine Bk.step (by with_reducible assumption) ?_ (by first | omega | (simp <;> omega)))), (by repeat (first | with_reducible exact Below.refl _ _ | with_reducible assumption | with_reducible refine Below.drew ?_ | with_reducible refine Below.drewN ?_ _ | with_reducible refine Below.alloc2 ?_ _ | with_reducible refine Below.alloc ?_ (by first | omega | (simp <;> omega)) _ | with_reducible refine Below.setCell ?_ (by first | omega | (simp <;> omega)) _ | with_reducible refine Below.step2 (by with_reducible assumption) ?_ | with_reducible refine Below.step (by with_reducible assumption) ?_ (by first | omega | (simp <;> omega))))⟩
  case round =>
    obtain ⟨k, hk, rfl, x0, x1, x2, HC, hk0, hk1, hb⟩ := hrel
    have HB := Lib.hid hb
    have HK0 := Lib.hid hk0
    have HK1 := Lib.hid hk1
    have ow := hb.size
    have ol1 := hk1.lt
    obtain ⟨q0, q1, q2⟩ := hk1.threec
    obtain ⟨r0, r1, r2⟩ := hk0.threec
    have f0 := hk1.frozen 0
    have f1 := hk1.frozen 1
    have f2 := hk1.frozen 2
    have e0 := hk0.frozen 0
    have e1 := hk0.frozen 1
    have e2 := hk0.frozen 2
    by_cases hlt : k < n
    · obtain ⟨b, o, ⟨xd, xk, xp, xn⟩, rfl, hbb, hx, c0, c1, c2, c3⟩ := (H.out _ hb).mv hlt
      dsimp only at c0 c1 c2 c3
      have hokx := List.all_eq_true.1 HOK.out _ (List.mem_of_getElem? hx)
      unfold okM at hokx
      simp only [Bool.and_eq_true] at hokx
      have hk2 := inR_iff.1 hokx.1
      have hn2 := inR_iff.1 hokx.2
      (try dsimp only at hk2); (try dsimp only at hn2)
      obtain ⟨v, hv⟩ : ∃ v, (xp.toList == p.toList) = v := ⟨_, rfl⟩
      have hv2 : eqS xp p = v := hv
      have s0 := cnt_step hx 0 p
      have s1 := cnt_step hx 1 p
      have s2 := cnt_step hx 2 p
      (try dsimp only at s0); (try dsimp only at s1); (try dsimp only at s2)
      rw [hv2, HC.out.1] at s0
      rw [hv2, HC.out.2.1] at s1
      rw [hv2, HC.out.2.2] at s2
      have bd0 := HBD.out k 0
      have bd1 := HBD.out k 1
      have bd2 := HBD.out k 2
      rw [HC.out.1] at bd0
      rw [HC.out.2.1] at bd1
      rw [HC.out.2.2] at bd2
      have ob : b < wr.heap.size := by omega
      have z1 : (0 : Int) ≤ (k : Int) := by omega
      have z2 : (k : Int) < (n : Int) := by omega
      clear hx hb hokx hv2 hk0 hk1
      cases v
      · have HCN : Hid (cnt 0 (l.take (k + 1)) p = x0 ∧ cnt 1 (l.take (k + 1)) p = x1 ∧ cnt 2 (l.take (k + 1)) p = x2) := Lib.hid (by simp at s0 s1 s2; exact ⟨s0, s1, s2⟩)
        clear s0 s1 s2
        go_wp2
        go_roundw
        case rel => exact ⟨k + 1, by omega, by go_num, x0, x1, x2, HCN, HK0.out, HK1.out, HB.out⟩
        case measure => simp [intOf]; omega
      · obtain rfl | rfl | rfl : xk = 0 ∨ xk = 1 ∨ xk = 2 := by omega
        · have HCN : Hid (cnt 0 (l.take (k + 1)) p = x0 + xn ∧ cnt 1 (l.take (k + 1)) p = x1 ∧ cnt 2 (l.take (k + 1)) p = x2) := Lib.hid (by simp at s0 s1 s2; exact ⟨s0, s1, s2⟩)
          have hw6 : IntKind.i64.wrap (x0 + xn) = x0 + xn := IntWalk.i64_in _ (by omega)
          clear s0 s1 s2
          go_upto_region 6 with (fail)
          refine region_goes (n := 20) (fun w' => (w'.cell? ⟨w.heap.size + 1, 0, none⟩ = some (.int .i64 x0) ∧ w'.cell? ⟨w.heap.size + 1, 1, none⟩ = some (.int .i64 x1) ∧ w'.cell? ⟨w.heap.size + 1, 2, none⟩ = some (.int .i64 x2)) ∧ w'.cell? ⟨b, o + k * 4 + 1, none⟩ = some (.int .i64 0) ∧ w'.cell? ⟨b, o + k * 4 + 3, none⟩ = some (.int .i64 xn)) [19] (by kernel_rfl) rfl ?_
          have hs1 := And.intro (And.intro q0 (And.intro q1 q2)) (And.intro c1 c3)
          (
                    refine goes_takeE (i := 0) (E := [2, 3, 4, 18, 19]) (v := .slice (some ⟨b, o, none⟩) n c) rfl (by kernel_rfl) rfl (fun _ _ _ h => h) (by intro w' hw'; obtain ⟨⟨z0, z1, z2⟩, y1, y3⟩ := hw'; go_simp) hs1 ?_
                    refine goes_takeE (i := 1) (E := [2, 3, 4, 18, 19]) (v := .int .i64 (k : Int)) rfl (by kernel_rfl) rfl (fun _ _ _ h => h) (by intro w' hw'; obtain ⟨⟨z0, z1, z2⟩, y1, y3⟩ := hw'; go_simp) hs1 ?_
                    refine goes_takeE (i := 2) (E := [3, 4, 18, 19]) (v := .pointer (some ⟨b, o + k * 4, none⟩)) rfl (by kernel_rfl) rfl (fun _ _ _ h => h) (by intro w' hw'; obtain ⟨⟨z0, z1, z2⟩, y1, y3⟩ := hw'; go_simp) hs1 ?_
                    refine goes_takeE (i := 3) (E := [4, 18, 19]) (v := .pointer (some ⟨b, o + k * 4 + 1, none⟩)) rfl (by kernel_rfl) rfl (fun _ _ _ h => h) (by intro w' hw'; obtain ⟨⟨z0, z1, z2⟩, y1, y3⟩ := hw'; go_simp) hs1 ?_
                    refine goes_takeE (i := 4) (E := [18, 19]) (v := .int .i64 0) rfl (by kernel_rfl) rfl (fun _ _ _ h => h) (by intro w' hw'; obtain ⟨⟨z0, z1, z2⟩, y1, y3⟩ := hw'; go_simp) hs1 ?_
                    refine goes_takeE (i := 5) (E := [7, 8, 9, 10, 11, 17, 19]) (v := .slice (some ⟨b, o, none⟩) n c) rfl (by kernel_rfl) rfl (fun _ _ _ h => h) (by intro w' hw'; obtain ⟨⟨z0, z1, z2⟩, y1, y3⟩ := hw'; go_simp) hs1 ?_
                    refine goes_takeE (i := 6) (E := [7, 8, 9, 10, 11, 17, 19]) (v := .int .i64 (k : Int)) rfl (by kernel_rfl) rfl (fun _ _ _ h => h) (by intro w' hw'; obtain ⟨⟨z0, z1, z2⟩, y1, y3⟩ := hw'; go_simp) hs1 ?_
                    refine goes_takeE (i := 7) (E := [8, 9, 10, 11, 17, 19]) (v := .pointer (some ⟨b, o + k * 4, none⟩)) rfl (by kernel_rfl) rfl (fun _ _ _ h => h) (by intro w' hw'; obtain ⟨⟨z0, z1, z2⟩, y1, y3⟩ := hw'; go_simp) hs1 ?_
                    refine goes_takeE (i := 8) (E := [9, 10, 11, 17, 19]) (v := .pointer (some ⟨b, o + k * 4 + 1, none⟩)) rfl (by kernel_rfl) rfl (fun _ _ _ h => h) (by intro w' hw'; obtain ⟨⟨z0, z1, z2⟩, y1, y3⟩ := hw'; go_simp) hs1 ?_
                    refine goes_takeE (i := 9) (E := [10, 11, 17, 19]) (v := .int .i64 0) rfl (by kernel_rfl) rfl (fun _ _ _ h => h) (by intro w' hw'; obtain ⟨⟨z0, z1, z2⟩, y1, y3⟩ := hw'; go_simp) hs1 ?_
                    refine goes_takeE (i := 10) (E := [11, 17, 19]) (v := .pointer (some ⟨w.heap.size + 1, 0, none⟩)) rfl (by kernel_rfl) rfl (fun _ _ _ h => h) (by intro w' hw'; obtain ⟨⟨z0, z1, z2⟩, y1, y3⟩ := hw'; go_simp) hs1 ?_
                    refine goes_takeE (i := 11) (E := [17, 19]) (v := .int .i64 x0) rfl (by kernel_rfl) rfl (fun _ _ _ h => h) (by intro w' hw'; obtain ⟨⟨z0, z1, z2⟩, y1, y3⟩ := hw'; go_simp) hs1 ?_
                    refine goes_takeE (i := 12) (E := [14, 15, 16, 17, 19]) (v := .slice (some ⟨b, o, none⟩) n c) rfl (by kernel_rfl) rfl (fun _ _ _ h => h) (by intro w' hw'; obtain ⟨⟨z0, z1, z2⟩, y1, y3⟩ := hw'; go_simp) hs1 ?_
                    refine goes_takeE (i := 13) (E := [14, 15, 16, 17, 19]) (v := .int .i64 (k : Int)) rfl (by kernel_rfl) rfl (fun _ _ _ h => h) (by intro w' hw'; obtain ⟨⟨z0, z1, z2⟩, y1, y3⟩ := hw'; go_simp) hs1 ?_
                    refine goes_takeE (i := 14) (E := [15, 16, 17, 19]) (v := .pointer (some ⟨b, o + k * 4, none⟩)) rfl (by kernel_rfl) rfl (fun _ _ _ h => h) (by intro w' hw'; obtain ⟨⟨z0, z1, z2⟩, y1, y3⟩ := hw'; go_simp) hs1 ?_
                    refine goes_takeE (i := 15) (E := [16, 17, 19]) (v := .pointer (some ⟨b, o + k * 4 + 3, none⟩)) rfl (by kernel_rfl) rfl (fun _ _ _ h => h) (by intro w' hw'; obtain ⟨⟨z0, z1, z2⟩, y1, y3⟩ := hw'; go_simp) hs1 ?_
                    refine goes_takeE (i := 16) (E := [17, 19]) (v := .int .i64 xn) rfl (by kernel_rfl) rfl (fun _ _ _ h => h) (by intro w' hw'; obtain ⟨⟨z0, z1, z2⟩, y1, y3⟩ := hw'; go_simp) hs1 ?_
                    refine goes_takeE (i := 17) (E := [19]) (v := .int .i64 (x0 + xn)) rfl (by kernel_rfl) rfl (fun _ _ _ h => h) (by intro w' hw'; obtain ⟨⟨z0, z1, z2⟩, y1, y3⟩ := hw'; go_simp) hs1 ?_
                    refine goes_takeE (i := 18) (E := [19]) (v := .pointer (some ⟨w.heap.size + 1, 0, none⟩)) rfl (by kernel_rfl) rfl (fun _ _ _ h => h) (by intro w' hw'; obtain ⟨⟨z0, z1, z2⟩, y1, y3⟩ := hw'; go_simp) hs1 ?_
                    refine goes_last (i := 19) rfl (by kernel_rfl) (by kernel_rfl) ?_
                    go_wp2_with fail
                    refine behind_ok (goes_done (by kernel_rfl) ?_)
                    go_wp2
                    go_roundw
                    case rel =>
                      have hb0 := HB.out
                      refine ⟨k + 1, by omega, by go_num, x0 + xn, x1, x2, ?_, ?_, ?_⟩
                      · exact HCN.out
                      · have hk := HK0.out
                        exact (Bk.drew hk).other (by simp) _
                      · refine ⟨?_, by exact (by repeat (first | with_reducible exact Below.refl _ _ | with_reducible assumption | with_reducible refine Below.drew ?_ | with_reducible refine Below.drewN ?_ _ | with_reducible refine Below.alloc2 ?_ _ | with_reducible refine Below.alloc ?_ (by first | omega | (simp <;> omega)) _ | with_reducible refine Below.setCell ?_ (by first | omega | (simp <;> omega)) _ | with_reducible refine Below.step2 (by with_reducible assumption) ?_ | with_reducible refine Below.step (by with_reducible assumption) ?_ (by first | omega | (simp <;> omega))))⟩
                        have hk := Bk.set_ HK1.out 0 (.int .i64 (x0 + xn))
                        exact Bk.drew (by simpa using hk)
                    case measure => simp [intOf]; omega)
        · have HCN : Hid (cnt 0 (l.take (k + 1)) p = x0 ∧ cnt 1 (l.take (k + 1)) p = x1 + xn ∧ cnt 2 (l.take (k + 1)) p = x2) := Lib.hid (by simp at s0 s1 s2; exact ⟨s0, s1, s2⟩)
          have hw6 : IntKind.i64.wrap (x1 + xn) = x1 + xn := IntWalk.i64_in _ (by omega)
          clear s0 s1 s2
          go_upto_region 6 with (fail)
          refine region_goes (n := 20) (fun w' => (w'.cell? ⟨w.heap.size + 1, 0, none⟩ = some (.int .i64 x0) ∧ w'.cell? ⟨w.heap.size + 1, 1, none⟩ = some (.int .i64 x1) ∧ w'.cell? ⟨w.heap.size + 1, 2, none⟩ = some (.int .i64 x2)) ∧ w'.cell? ⟨b, o + k * 4 + 1, none⟩ = some (.int .i64 1) ∧ w'.cell? ⟨b, o + k * 4 + 3, none⟩ = some (.int .i64 xn)) [19] (by kernel_rfl) rfl ?_
          have hs1 := And.intro (And.intro q0 (And.intro q1 q2)) (And.intro c1 c3)
          (
                    refine goes_takeE (i := 0) (E := [2, 3, 4, 18, 19]) (v := .slice (some ⟨b, o, none⟩) n c) rfl (by kernel_rfl) rfl (fun _ _ _ h => h) (by intro w' hw'; obtain ⟨⟨z0, z1, z2⟩, y1, y3⟩ := hw'; go_simp) hs1 ?_
                    refine goes_takeE (i := 1) (E := [2, 3, 4, 18, 19]) (v := .int .i64 (k : Int)) rfl (by kernel_rfl) rfl (fun _ _ _ h => h) (by intro w' hw'; obtain ⟨⟨z0, z1, z2⟩, y1, y3⟩ := hw'; go_simp) hs1 ?_
                    refine goes_takeE (i := 2) (E := [3, 4, 18, 19]) (v := .pointer (some ⟨b, o + k * 4, none⟩)) rfl (by kernel_rfl) rfl (fun _ _ _ h => h) (by intro w' hw'; obtain ⟨⟨z0, z1, z2⟩, y1, y3⟩ := hw'; go_simp) hs1 ?_
                    refine goes_takeE (i := 3) (E := [4, 18, 19]) (v := .pointer (some ⟨b, o + k * 4 + 1, none⟩)) rfl (by kernel_rfl) rfl (fun _ _ _ h => h) (by intro w' hw'; obtain ⟨⟨z0, z1, z2⟩, y1, y3⟩ := hw'; go_simp) hs1 ?_
                    refine goes_takeE (i := 4) (E := [18, 19]) (v := .int .i64 1) rfl (by kernel_rfl) rfl (fun _ _ _ h => h) (by intro w' hw'; obtain ⟨⟨z0, z1, z2⟩, y1, y3⟩ := hw'; go_simp) hs1 ?_
                    refine goes_takeE (i := 5) (E := [7, 8, 9, 10, 11, 17, 19]) (v := .slice (some ⟨b, o, none⟩) n c) rfl (by kernel_rfl) rfl (fun _ _ _ h => h) (by intro w' hw'; obtain ⟨⟨z0, z1, z2⟩, y1, y3⟩ := hw'; go_simp) hs1 ?_
                    refine goes_takeE (i := 6) (E := [7, 8, 9, 10, 11, 17, 19]) (v := .int .i64 (k : Int)) rfl (by kernel_rfl) rfl (fun _ _ _ h => h) (by intro w' hw'; obtain ⟨⟨z0, z1, z2⟩, y1, y3⟩ := hw'; go_simp) hs1 ?_
                    refine goes_takeE (i := 7) (E := [8, 9, 10, 11, 17, 19]) (v := .pointer (some ⟨b, o + k * 4, none⟩)) rfl (by kernel_rfl) rfl (fun _ _ _ h => h) (by intro w' hw'; obtain ⟨⟨z0, z1, z2⟩, y1, y3⟩ := hw'; go_simp) hs1 ?_
                    refine goes_takeE (i := 8) (E := [9, 10, 11, 17, 19]) (v := .pointer (some ⟨b, o + k * 4 + 1, none⟩)) rfl (by kernel_rfl) rfl (fun _ _ _ h => h) (by intro w' hw'; obtain ⟨⟨z0, z1, z2⟩, y1, y3⟩ := hw'; go_simp) hs1 ?_
                    refine goes_takeE (i := 9) (E := [10, 11, 17, 19]) (v := .int .i64 1) rfl (by kernel_rfl) rfl (fun _ _ _ h => h) (by intro w' hw'; obtain ⟨⟨z0, z1, z2⟩, y1, y3⟩ := hw'; go_simp) hs1 ?_
                    refine goes_takeE (i := 10) (E := [11, 17, 19]) (v := .pointer (some ⟨w.heap.size + 1, 1, none⟩)) rfl (by kernel_rfl) rfl (fun _ _ _ h => h) (by intro w' hw'; obtain ⟨⟨z0, z1, z2⟩, y1, y3⟩ := hw'; go_simp) hs1 ?_
                    refine goes_takeE (i := 11) (E := [17, 19]) (v := .int .i64 x1) rfl (by kernel_rfl) rfl (fun _ _ _ h => h) (by intro w' hw'; obtain ⟨⟨z0, z1, z2⟩, y1, y3⟩ := hw'; go_simp) hs1 ?_
                    refine goes_takeE (i := 12) (E := [14, 15, 16, 17, 19]) (v := .slice (some ⟨b, o, none⟩) n c) rfl (by kernel_rfl) rfl (fun _ _ _ h => h) (by intro w' hw'; obtain ⟨⟨z0, z1, z2⟩, y1, y3⟩ := hw'; go_simp) hs1 ?_
                    refine goes_takeE (i := 13) (E := [14, 15, 16, 17, 19]) (v := .int .i64 (k : Int)) rfl (by kernel_rfl) rfl (fun _ _ _ h => h) (by intro w' hw'; obtain ⟨⟨z0, z1, z2⟩, y1, y3⟩ := hw'; go_simp) hs1 ?_
                    refine goes_takeE (i := 14) (E := [15, 16, 17, 19]) (v := .pointer (some ⟨b, o + k * 4, none⟩)) rfl (by kernel_rfl) rfl (fun _ _ _ h => h) (by intro w' hw'; obtain ⟨⟨z0, z1, z2⟩, y1, y3⟩ := hw'; go_simp) hs1 ?_
                    refine goes_takeE (i := 15) (E := [16, 17, 19]) (v := .pointer (some ⟨b, o + k * 4 + 3, none⟩)) rfl (by kernel_rfl) rfl (fun _ _ _ h => h) (by intro w' hw'; obtain ⟨⟨z0, z1, z2⟩, y1, y3⟩ := hw'; go_simp) hs1 ?_
                    refine goes_takeE (i := 16) (E := [17, 19]) (v := .int .i64 xn) rfl (by kernel_rfl) rfl (fun _ _ _ h => h) (by intro w' hw'; obtain ⟨⟨z0, z1, z2⟩, y1, y3⟩ := hw'; go_simp) hs1 ?_
                    refine goes_takeE (i := 17) (E := [19]) (v := .int .i64 (x1 + xn)) rfl (by kernel_rfl) rfl (fun _ _ _ h => h) (by intro w' hw'; obtain ⟨⟨z0, z1, z2⟩, y1, y3⟩ := hw'; go_simp) hs1 ?_
                    refine goes_takeE (i := 18) (E := [19]) (v := .pointer (some ⟨w.heap.size + 1, 1, none⟩)) rfl (by kernel_rfl) rfl (fun _ _ _ h => h) (by intro w' hw'; obtain ⟨⟨z0, z1, z2⟩, y1, y3⟩ := hw'; go_simp) hs1 ?_
                    refine goes_last (i := 19) rfl (by kernel_rfl) (by kernel_rfl) ?_
                    go_wp2_with fail
                    refine behind_ok (goes_done (by kernel_rfl) ?_)
                    go_wp2
                    go_roundw
                    case rel =>
                      have hb0 := HB.out
                      refine ⟨k + 1, by omega, by go_num, x0, x1 + xn, x2, ?_, ?_, ?_⟩
                      · exact HCN.out
                      · have hk := HK0.out
                        exact (Bk.drew hk).other (by simp) _
                      · refine ⟨?_, by exact (by repeat (first | with_reducible exact Below.refl _ _ | with_reducible assumption | with_reducible refine Below.drew ?_ | with_reducible refine Below.drewN ?_ _ | with_reducible refine Below.alloc2 ?_ _ | with_reducible refine Below.alloc ?_ (by first | omega | (simp <;> omega)) _ | with_reducible refine Below.setCell ?_ (by first | omega | (simp <;> omega)) _ | with_reducible refine Below.step2 (by with_reducible assumption) ?_ | with_reducible refine Below.step (by with_reducible assumption) ?_ (by first | omega | (simp <;> omega))))⟩
                        have hk := Bk.set_ HK1.out 1 (.int .i64 (x1 + xn))
                        exact Bk.drew (by simpa using hk)
                    case measure => simp [intOf]; omega)
        · have HCN : Hid (cnt 0 (l.take (k + 1)) p = x0 ∧ cnt 1 (l.take (k + 1)) p = x1 ∧ cnt 2 (l.take (k + 1)) p = x2 + xn) := Lib.hid (by simp at s0 s1 s2; exact ⟨s0, s1, s2⟩)
          have hw6 : IntKind.i64.wrap (x2 + xn) = x2 + xn := IntWalk.i64_in _ (by omega)
          clear s0 s1 s2
          go_upto_region 6 with (fail)
          refine region_goes (n := 20) (fun w' => (w'.cell? ⟨w.heap.size + 1, 0, none⟩ = some (.int .i64 x0) ∧ w'.cell? ⟨w.heap.size + 1, 1, none⟩ = some (.int .i64 x1) ∧ w'.cell? ⟨w.heap.size + 1, 2, none⟩ = some (.int .i64 x2)) ∧ w'.cell? ⟨b, o + k * 4 + 1, none⟩ = some (.int .i64 2) ∧ w'.cell? ⟨b, o + k * 4 + 3, none⟩ = some (.int .i64 xn)) [19] (by kernel_rfl) rfl ?_
          have hs1 := And.intro (And.intro q0 (And.intro q1 q2)) (And.intro c1 c3)
          (
                    refine goes_takeE (i := 0) (E := [2, 3, 4, 18, 19]) (v := .slice (some ⟨b, o, none⟩) n c) rfl (by kernel_rfl) rfl (fun _ _ _ h => h) (by intro w' hw'; obtain ⟨⟨z0, z1, z2⟩, y1, y3⟩ := hw'; go_simp) hs1 ?_
                    refine goes_takeE (i := 1) (E := [2, 3, 4, 18, 19]) (v := .int .i64 (k : Int)) rfl (by kernel_rfl) rfl (fun _ _ _ h => h) (by intro w' hw'; obtain ⟨⟨z0, z1, z2⟩, y1, y3⟩ := hw'; go_simp) hs1 ?_
                    refine goes_takeE (i := 2) (E := [3, 4, 18, 19]) (v := .pointer (some ⟨b, o + k * 4, none⟩)) rfl (by kernel_rfl) rfl (fun _ _ _ h => h) (by intro w' hw'; obtain ⟨⟨z0, z1, z2⟩, y1, y3⟩ := hw'; go_simp) hs1 ?_
                    refine goes_takeE (i := 3) (E := [4, 18, 19]) (v := .pointer (some ⟨b, o + k * 4 + 1, none⟩)) rfl (by kernel_rfl) rfl (fun _ _ _ h => h) (by intro w' hw'; obtain ⟨⟨z0, z1, z2⟩, y1, y3⟩ := hw'; go_simp) hs1 ?_
                    refine goes_takeE (i := 4) (E := [18, 19]) (v := .int .i64 2) rfl (by kernel_rfl) rfl (fun _ _ _ h => h) (by intro w' hw'; obtain ⟨⟨z0, z1, z2⟩, y1, y3⟩ := hw'; go_simp) hs1 ?_
                    refine goes_takeE (i := 5) (E := [7, 8, 9, 10, 11, 17, 19]) (v := .slice (some ⟨b, o, none⟩) n c) rfl (by kernel_rfl) rfl (fun _ _ _ h => h) (by intro w' hw'; obtain ⟨⟨z0, z1, z2⟩, y1, y3⟩ := hw'; go_simp) hs1 ?_
                    refine goes_takeE (i := 6) (E := [7, 8, 9, 10, 11, 17, 19]) (v := .int .i64 (k : Int)) rfl (by kernel_rfl) rfl (fun _ _ _ h => h) (by intro w' hw'; obtain ⟨⟨z0, z1, z2⟩, y1, y3⟩ := hw'; go_simp) hs1 ?_
                    refine goes_takeE (i := 7) (E := [8, 9, 10, 11, 17, 19]) (v := .pointer (some ⟨b, o + k * 4, none⟩)) rfl (by kernel_rfl) rfl (fun _ _ _ h => h) (by intro w' hw'; obtain ⟨⟨z0, z1, z2⟩, y1, y3⟩ := hw'; go_simp) hs1 ?_
                    refine goes_takeE (i := 8) (E := [9, 10, 11, 17, 19]) (v := .pointer (some ⟨b, o + k * 4 + 1, none⟩)) rfl (by kernel_rfl) rfl (fun _ _ _ h => h) (by intro w' hw'; obtain ⟨⟨z0, z1, z2⟩, y1, y3⟩ := hw'; go_simp) hs1 ?_
                    refine goes_takeE (i := 9) (E := [10, 11, 17, 19]) (v := .int .i64 2) rfl (by kernel_rfl) rfl (fun _ _ _ h => h) (by intro w' hw'; obtain ⟨⟨z0, z1, z2⟩, y1, y3⟩ := hw'; go_simp) hs1 ?_
                    refine goes_takeE (i := 10) (E := [11, 17, 19]) (v := .pointer (some ⟨w.heap.size + 1, 2, none⟩)) rfl (by kernel_rfl) rfl (fun _ _ _ h => h) (by intro w' hw'; obtain ⟨⟨z0, z1, z2⟩, y1, y3⟩ := hw'; go_simp) hs1 ?_
                    refine goes_takeE (i := 11) (E := [17, 19]) (v := .int .i64 x2) rfl (by kernel_rfl) rfl (fun _ _ _ h => h) (by intro w' hw'; obtain ⟨⟨z0, z1, z2⟩, y1, y3⟩ := hw'; go_simp) hs1 ?_
                    refine goes_takeE (i := 12) (E := [14, 15, 16, 17, 19]) (v := .slice (some ⟨b, o, none⟩) n c) rfl (by kernel_rfl) rfl (fun _ _ _ h => h) (by intro w' hw'; obtain ⟨⟨z0, z1, z2⟩, y1, y3⟩ := hw'; go_simp) hs1 ?_
                    refine goes_takeE (i := 13) (E := [14, 15, 16, 17, 19]) (v := .int .i64 (k : Int)) rfl (by kernel_rfl) rfl (fun _ _ _ h => h) (by intro w' hw'; obtain ⟨⟨z0, z1, z2⟩, y1, y3⟩ := hw'; go_simp) hs1 ?_
                    refine goes_takeE (i := 14) (E := [15, 16, 17, 19]) (v := .pointer (some ⟨b, o + k * 4, none⟩)) rfl (by kernel_rfl) rfl (fun _ _ _ h => h) (by intro w' hw'; obtain ⟨⟨z0, z1, z2⟩, y1, y3⟩ := hw'; go_simp) hs1 ?_
                    refine goes_takeE (i := 15) (E := [16, 17, 19]) (v := .pointer (some ⟨b, o + k * 4 + 3, none⟩)) rfl (by kernel_rfl) rfl (fun _ _ _ h => h) (by intro w' hw'; obtain ⟨⟨z0, z1, z2⟩, y1, y3⟩ := hw'; go_simp) hs1 ?_
                    refine goes_takeE (i := 16) (E := [17, 19]) (v := .int .i64 xn) rfl (by kernel_rfl) rfl (fun _ _ _ h => h) (by intro w' hw'; obtain ⟨⟨z0, z1, z2⟩, y1, y3⟩ := hw'; go_simp) hs1 ?_
                    refine goes_takeE (i := 17) (E := [19]) (v := .int .i64 (x2 + xn)) rfl (by kernel_rfl) rfl (fun _ _ _ h => h) (by intro w' hw'; obtain ⟨⟨z0, z1, z2⟩, y1, y3⟩ := hw'; go_simp) hs1 ?_
                    refine goes_takeE (i := 18) (E := [19]) (v := .pointer (some ⟨w.heap.size + 1, 2, none⟩)) rfl (by kernel_rfl) rfl (fun _ _ _ h => h) (by intro w' hw'; obtain ⟨⟨z0, z1, z2⟩, y1, y3⟩ := hw'; go_simp) hs1 ?_
                    refine goes_last (i := 19) rfl (by kernel_rfl) (by kernel_rfl) ?_
                    go_wp2_with fail
                    refine behind_ok (goes_done (by kernel_rfl) ?_)
                    go_wp2
                    go_roundw
                    case rel =>
                      have hb0 := HB.out
                      refine ⟨k + 1, by omega, by go_num, x0, x1, x2 + xn, ?_, ?_, ?_⟩
                      · exact HCN.out
                      · have hk := HK0.out
                        exact (Bk.drew hk).other (by simp) _
                      · refine ⟨?_, by exact (by repeat (first | with_reducible exact Below.refl _ _ | with_reducible assumption | with_reducible refine Below.drew ?_ | with_reducible refine Below.drewN ?_ _ | with_reducible refine Below.alloc2 ?_ _ | with_reducible refine Below.alloc ?_ (by first | omega | (simp <;> omega)) _ | with_reducible refine Below.setCell ?_ (by first | omega | (simp <;> omega)) _ | with_reducible refine Below.step2 (by with_reducible assumption) ?_ | with_reducible refine Below.step (by with_reducible assumption) ?_ (by first | omega | (simp <;> omega))))⟩
                        have hk := Bk.set_ HK1.out 2 (.int .i64 (x2 + xn))
                        exact Bk.drew (by simpa using hk)
                    case measure => simp [intOf]; omega)
    · have HCE : Hid (cnt 0 l p = x0 ∧ cnt 1 l p = x1 ∧ cnt 2 l p = x2) := Lib.hid (by
        have := HC.out
        rw [List.take_of_length_le (by rw [HLEN.out]; omega)] at this
        exact this)
      go_wp2
      have hb0 := HB.out
      refine bodyPost_ret (v := .agg #[.int .i64 x0, .int .i64 x1, .int .i64 x2]) (by simp [results, Try.results29, go_sem, r0, r1, r2]) rfl ⟨(by repeat (first | with_reducible exact Below.refl _ _ | with_reducible assumption | with_reducible refine Below.drew ?_ | with_reducible refine Below.drewN ?_ _ | with_reducible refine Below.alloc2 ?_ _ | with_reducible refine Below.alloc ?_ (by first | omega | (simp <;> omega)) _ | with_reducible refine Below.setCell ?_ (by first | omega | (simp <;> omega)) _ | with_reducible refine Below.step2 (by with_reducible assumption) ?_ | with_reducible refine Below.step (by with_reducible assumption) ?_ (by first | omega | (simp <;> omega)))), ?_⟩
      rw [HCE.out.1, HCE.out.2.1, HCE.out.2.2]

end Go.Proofs.Ytbeijeblbchglaa
