/- Chapter 6, walks: distances, the nearest tie. -/
import Derived.Test.YtfnphhmcbdoojaaGreatDoorRefTies6
import Derived.Lib.MinMax
namespace Go.Proofs.YtfnphhmcbdoojaaGreatDoor
open Go.RowKit

def absD (x y : Int) : Int := max (x - y) (y - x)
def wayI (a lv : List Int) (t u : Int × Int) : Int := absD (a.getD t.1.toNat 0) (a.getD u.1.toNat 0) + absD (lv.getD t.2.toNat 0) (lv.getD u.2.toNat 0)
theorem absD_le {x y : Int} (h1 : -1000000 ≤ x) (h2 : x ≤ 1000000) (h3 : -1000000 ≤ y) (h4 : y ≤ 1000000) : 0 ≤ absD x y ∧ absD x y ≤ 2000000 := by unfold absD; omega
set_option maxHeartbeats 400000 in
theorem distance_any (x y : Int) (w : World) (h1 : -1000000 ≤ x) (h2 : x ≤ 1000000) (h3 : -1000000 ≤ y) (h4 : y ≤ 1000000) : Calls Tryz.prog 93 #[.int .i64 x, .int .i64 y] w fun e w' => w = w' ∧ e = .returned (.int .i64 (absD x y)) := by
  have hw1 : IntKind.i64.wrap (x - y) = x - y := IntWalk.i64_in _ (by omega)
  have hw2 : IntKind.i64.wrap (y - x) = y - x := IntWalk.i64_in _ (by omega)
  have HD : Hid (max (x - y) (y - x) = absD x y) := Lib.hid rfl
  clear h1 h2 h3 h4
  go_enter Tryz.func93, Tryz.ntmps93
  go_wp2
  go_ret
  exact ⟨rfl, ret_int (by first | exact HD.out | (rw [← HD.out]; omega))⟩

set_option maxHeartbeats 4000000 in
theorem way_any (f : Int) (A A2 : Option Addr) (n c m c2 t1 t2 u1 u2 : Nat) (a lv : List Int) (w : World) (ha : Nums w w.heap.size A n c a) (hl : Nums w w.heap.size A2 m c2 lv)
    (h1 : t1 < n) (h2 : t2 < m) (h3 : u1 < n) (h4 : u2 < m) (ba : allIn (-1000000) 1000000 a = true) (bl : allIn 1 1000000 lv = true) :
    Calls Tryz.prog 97 #[.agg #[.int .i64 f, .slice A n c, .slice A2 m c2], .agg #[.int .i64 (t1 : Int), .int .i64 (t2 : Int)], .agg #[.int .i64 (u1 : Int), .int .i64 (u2 : Int)]] w fun e w' => Below w.heap.size w w' ∧ e = .returned (.int .i64 (wayI a lv ((t1 : Int), (t2 : Int)) ((u1 : Int), (u2 : Int)))) := by
  obtain ⟨b, o, p, rfl, hb, hp, c0⟩ := ha.at_ h1
  obtain ⟨b', o', q, e, -, hq, c1⟩ := ha.at_ h3
  obtain ⟨rfl, rfl⟩ : b = b' ∧ o = o' := by simpa using e
  obtain ⟨d, v, r, rfl, hd, hr, d0⟩ := hl.at_ h2
  obtain ⟨d', v', s, e2, -, hs, d1⟩ := hl.at_ h4
  obtain ⟨rfl, rfl⟩ : d = d' ∧ v = v' := by simpa using e2
  have inA : ∀ x ∈ a, -1000000 ≤ x ∧ x ≤ 1000000 := fun x hx => by simpa using List.all_eq_true.1 ba x hx
  have inL : ∀ x ∈ lv, 1 ≤ x ∧ x ≤ 1000000 := fun x hx => by simpa using List.all_eq_true.1 bl x hx
  have hp1 := inA p (List.mem_of_getElem? hp)
  have hq1 := inA q (List.mem_of_getElem? hq)
  have hr1 := inL r (List.mem_of_getElem? hr)
  have hs1 := inL s (List.mem_of_getElem? hs)
  have D1 := Lib.hid (fun W => distance_any p q W hp1.1 hp1.2 hq1.1 hq1.2)
  have D2 := Lib.hid (fun W => distance_any r s W (by omega) hr1.2 (by omega) hs1.2)
  have b1 := absD_le hp1.1 hp1.2 hq1.1 hq1.2
  have b2 := absD_le (x := r) (y := s) (by omega) hr1.2 (by omega) hs1.2
  have HW : Hid (wayI a lv ((t1 : Int), (t2 : Int)) ((u1 : Int), (u2 : Int)) = absD p q + absD r s) := Lib.hid (by simp [wayI, List.getD_eq_getElem?_getD, hp, hq, hr, hs])
  rw [HW.out]
  have hw1 : IntKind.i64.wrap (absD p q + absD r s) = absD p q + absD r s := IntWalk.i64_in _ (by omega)
  have z1 : (0 : Int) ≤ (t1 : Int) := by omega
  have z2 : (t1 : Int) < (n : Int) := by omega
  have z3 : (0 : Int) ≤ (u1 : Int) := by omega
  have z4 : (u1 : Int) < (n : Int) := by omega
  have z5 : (0 : Int) ≤ (t2 : Int) := by omega
  have z6 : (t2 : Int) < (m : Int) := by omega
  have z7 : (0 : Int) ≤ (u2 : Int) := by omega
  have z8 : (u2 : Int) < (m : Int) := by omega
  generalize absD p q = dp at *
  generalize absD r s = dr at *
  clear e e2 hp hq hr hs hp1 hq1 hr1 hs1 inA inL b1 b2 ha hl ba bl HW h1 h2 h3 h4
  obtain ⟨W, hW⟩ : ∃ W, W = ((w.alloc (.cells #[.int .i64 f, .slice (some ⟨b, o, none⟩) n c, .slice (some ⟨d, v, none⟩) m c2] 24)).alloc (.cells #[.int .i64 (t1 : Int), .int .i64 (t2 : Int)] 95)).alloc (.cells #[.int .i64 (u1 : Int), .int .i64 (u2 : Int)] 95) := ⟨_, rfl⟩
  have hbW : Below w.heap.size w W := by rw [hW]; exact (by repeat (first | with_reducible exact Below.refl _ _ | with_reducible assumption | with_reducible refine Below.drew ?_ | with_reducible refine Below.drewN ?_ _ | with_reducible refine Below.alloc2 ?_ _ | with_reducible refine Below.alloc ?_ (by first | omega | (simp <;> omega)) _ | with_reducible refine Below.setCell ?_ (by first | omega | (simp <;> omega)) _ | with_reducible refine Below.step2 (by with_reducible assumption) ?_ | with_reducible refine Below.step (by with_reducible assumption) ?_ (by first | omega | (simp <;> omega))))
  have k1 : Bk W w.heap.size 24 #[.int .i64 f, .slice (some ⟨b, o, none⟩) n c, .slice (some ⟨d, v, none⟩) m c2] := by rw [hW]; exact (by repeat (first | with_reducible assumption | with_reducible exact Bk.at_ (by first | (simp; done) | omega) | with_reducible refine Bk.alloc ?_ _ | with_reducible refine Bk.drew ?_ | with_reducible refine Bk.drewN ?_ _ | with_reducible refine Bk.step (by with_reducible assumption) ?_ (by first | omega | (simp <;> omega))))
  have k2 : Bk W (w.heap.size + 1) 95 #[.int .i64 (t1 : Int), .int .i64 (t2 : Int)] := by rw [hW]; exact (by repeat (first | with_reducible assumption | with_reducible exact Bk.at_ (by first | (simp; done) | omega) | with_reducible refine Bk.alloc ?_ _ | with_reducible refine Bk.drew ?_ | with_reducible refine Bk.drewN ?_ _ | with_reducible refine Bk.step (by with_reducible assumption) ?_ (by first | omega | (simp <;> omega))))
  have k3 : Bk W (w.heap.size + 2) 95 #[.int .i64 (u1 : Int), .int .i64 (u2 : Int)] := by rw [hW]; exact (by repeat (first | with_reducible assumption | with_reducible exact Bk.at_ (by first | (simp; done) | omega) | with_reducible refine Bk.alloc ?_ _ | with_reducible refine Bk.drew ?_ | with_reducible refine Bk.drewN ?_ _ | with_reducible refine Bk.step (by with_reducible assumption) ?_ (by first | omega | (simp <;> omega))))
  obtain ⟨⟨-, g1, g2⟩, -⟩ := k1.three
  obtain ⟨⟨g3, g4⟩, -⟩ := k2.two
  obtain ⟨⟨g5, g6⟩, -⟩ := k3.two
  have e0 := ((bcell hbW).1 _ _ hb).trans c0
  have e1 := ((bcell hbW).1 _ _ hb).trans c1
  have e3 := ((bcell hbW).1 _ _ hd).trans d0
  have e4 := ((bcell hbW).1 _ _ hd).trans d1
  have HBW := Lib.hid hbW
  clear hbW k1 k2 k3 c0 c1 d0 d1
  go_enter Tryz.func97, Tryz.ntmps97
  go_wp2
  rw [← hW]
  clear hW
  go_region_held3 (fun w' => (w'.cell? ⟨w.heap.size, 1, none⟩ = some (.slice (some ⟨b, o, none⟩) n c) ∧ w'.cell? ⟨w.heap.size, 2, none⟩ = some (.slice (some ⟨d, v, none⟩) m c2)) ∧ (w'.cell? ⟨w.heap.size + 1, 0, none⟩ = some (.int .i64 (t1 : Int)) ∧ w'.cell? ⟨w.heap.size + 1, 1, none⟩ = some (.int .i64 (t2 : Int))) ∧ (w'.cell? ⟨w.heap.size + 2, 0, none⟩ = some (.int .i64 (u1 : Int)) ∧ w'.cell? ⟨w.heap.size + 2, 1, none⟩ = some (.int .i64 (u2 : Int))) ∧ w'.cell? ⟨b, o + t1, none⟩ = some (.int .i64 p) ∧ w'.cell? ⟨b, o + u1, none⟩ = some (.int .i64 q) ∧ w'.cell? ⟨d, v + t2, none⟩ = some (.int .i64 r) ∧ w'.cell? ⟨d, v + u2, none⟩ = some (.int .i64 s)) (go_keep) (first
        | (go_at_call_of 93 (Value.int .i64 p); refine (D1.out _).mono ?_; rintro e w1 ⟨rfl, rfl⟩)
        | (go_at_call_of 93 (Value.int .i64 r); refine (D2.out _).mono ?_; rintro e w1 ⟨rfl, rfl⟩))
  go_wp2
  go_ret
  have hb0 := HBW.out
  exact ⟨(by repeat (first | with_reducible exact Below.refl _ _ | with_reducible assumption | with_reducible refine Below.drew ?_ | with_reducible refine Below.drewN ?_ _ | with_reducible refine Below.alloc2 ?_ _ | with_reducible refine Below.alloc ?_ (by first | omega | (simp <;> omega)) _ | with_reducible refine Below.setCell ?_ (by first | omega | (simp <;> omega)) _ | with_reducible refine Below.step2 (by with_reducible assumption) ?_ | with_reducible refine Below.step (by with_reducible assumption) ?_ (by first | omega | (simp <;> omega)))), rfl⟩

def nearTo (a lv : List Int) (l : List (Int × Int)) (u : Int × Int) : Nat → Nat
  | 0 => 0
  | k + 1 => if wayI a lv (l.getD k (0, 0)) u < wayI a lv (l.getD (nearTo a lv l u k) (0, 0)) u then k else nearTo a lv l u k
theorem nearTo_lt {a lv : List Int} {l : List (Int × Int)} {u : Int × Int} (h : 1 ≤ l.length) : ∀ k, k ≤ l.length → nearTo a lv l u k < l.length
  | 0, _ => h
  | k + 1, hk => by
    simp only [nearTo]
    split
    · omega
    · exact nearTo_lt h k (by omega)
set_option maxHeartbeats 8000000 in
theorem nearest_any (f : Int) (A A2 T : Option Addr) (n c m c2 k0 ct u1 u2 : Nat) (a lv : List Int) (l : List (Int × Int)) (w : World) (ha : Nums w w.heap.size A n c a) (hl : Nums w w.heap.size A2 m c2 lv) (ht : Pts w w.heap.size T k0 ct l)
    (h3 : u1 < n) (h4 : u2 < m) (ba : allIn (-1000000) 1000000 a = true) (bl : allIn 1 1000000 lv = true) (hk0 : 1 ≤ k0) (hin : l.any (fun t => !tieIn n m t) = false) :
    Calls Tryz.prog 69 #[.agg #[.int .i64 f, .slice A n c, .slice A2 m c2], .slice T k0 ct, .agg #[.int .i64 (u1 : Int), .int .i64 (u2 : Int)]] w fun e w' => Below w.heap.size w w' ∧ e = .returned (.int .i64 (nearTo a lv l ((u1 : Int), (u2 : Int)) k0 : Nat)) := by
  have hcap := ht.cap
  have hmax := ht.max
  have HLEN := Lib.hid ht.len
  have H : Hid (∀ w', Below w.heap.size w w' → Pts w' w.heap.size T k0 ct l) := fun w' hb => ht.below hb (Nat.le_refl _) (Nat.le_refl _)
  have HIN : Hid (∀ t ∈ l, tieIn n m t = true) := Lib.hid fun t hx => by have := List.any_eq_false.1 hin t hx; simpa using this
  have HWY : Hid (∀ (t1 t2 : Nat), t1 < n → t2 < m → ∀ w', Below w.heap.size w w' → Calls Tryz.prog 97 #[.agg #[.int .i64 f, .slice A n c, .slice A2 m c2], .agg #[.int .i64 (t1 : Int), .int .i64 (t2 : Int)], .agg #[.int .i64 (u1 : Int), .int .i64 (u2 : Int)]] w' fun e w'' => Below w'.heap.size w' w'' ∧ e = .returned (.int .i64 (wayI a lv ((t1 : Int), (t2 : Int)) ((u1 : Int), (u2 : Int))))) :=
    Lib.hid fun t1 t2 q1 q2 w' hb => way_any f A A2 n c m c2 t1 t2 u1 u2 a lv w' (ha.below hb (Nat.le_refl _) hb.size) (hl.below hb (Nat.le_refl _) hb.size) q1 q2 h3 h4 ba bl
  clear ha hl ht h3 h4 ba bl hin
  go_enter Tryz.func69, Tryz.ntmps69
  go_wp2
  go_loopw [7, 8, 9, 12] (fun s _ _ i wr => ∃ k : Nat, k ≤ k0 ∧ i = .int .i64 k ∧ s = .int .i64 (nearTo a lv l ((u1 : Int), (u2 : Int)) k : Nat) ∧ Below w.heap.size w wr ∧ Bk wr w.heap.size 24 #[.int .i64 f, .slice A n c, .slice A2 m c2] ∧ Bk wr (w.heap.size + 1) 95 #[.int .i64 (u1 : Int), .int .i64 (u2 : Int)]) (fun _ _ _ i _ => k0 - (intOf i).toNat)
  case atStart => exact ⟨0, Nat.zero_le _, rfl, rfl, (by repeat (first | with_reducible exact Below.refl _ _ | with_reducible assumption | with_reducible refine Below.drew ?_ | with_reducible refine Below.drewN ?_ _ | with_reducible refine Below.alloc2 ?_ _ | with_reducible refine Below.alloc ?_ (by first | omega | (simp <;> omega)) _ | with_reducible refine Below.setCell ?_ (by first | omega | (simp <;> omega)) _ | with_reducible refine Below.step2 (by with_reducible assumption) ?_ | with_reducible refine Below.step (by with_reducible assumption) ?_ (by first | omega | (simp <;> omega)))), (by repeat (first | with_reducible assumption | with_reducible exact Bk.at_ (by first | (simp; done) | omega) | with_reducible refine Bk.alloc ?_ _ | with_reducible refine Bk.drew ?_ | with_reducible refine Bk.drewN ?_ _ | with_reducible refine Bk.step (by with_reducible assumption) ?_ (by first | omega | (simp <;> omega)))), (by repeat (first | with_reducible assumption | with_reducible exact Bk.at_ (by first | (simp; done) | omega) | with_reducible refine Bk.alloc ?_ _ | with_reducible refine Bk.drew ?_ | with_reducible refine Bk.drewN ?_ _ | with_reducible refine Bk.step (by with_reducible assumption) ?_ (by first | omega | (simp <;> omega))))⟩
  case round =>
    obtain ⟨k, hk, rfl, rfl, hb, hbg, hba⟩ := hrel
    have HB := Lib.hid hb
    have ow := hb.size
    by_cases hlt : k < k0
    · obtain ⟨r, hr⟩ : ∃ r, nearTo a lv l ((u1 : Int), (u2 : Int)) k = r := ⟨_, rfl⟩
      have hrl : r < k0 := by have := nearTo_lt (a := a) (lv := lv) (u := ((u1 : Int), (u2 : Int))) (by rw [HLEN.out]; exact hk0) k (by rw [HLEN.out]; exact hk); rw [hr, HLEN.out] at this; exact this
      obtain ⟨b, o, ⟨x, x'⟩, rfl, hbb, hx, c0, c1⟩ := (H.out _ hb).at_ hlt
      obtain ⟨b', o', ⟨y, y'⟩, e, -, hy, d0, d1⟩ := (H.out _ hb).at_ hrl
      obtain ⟨rfl, rfl⟩ : b = b' ∧ o = o' := by simpa using e
      dsimp only at c0 c1 d0 d1
      have hx1 := HIN.out _ (List.mem_of_getElem? hx)
      have hy1 := HIN.out _ (List.mem_of_getElem? hy)
      simp only [tieIn, inR, Bool.and_eq_true, decide_eq_true_eq] at hx1 hy1
      obtain ⟨x1, rfl⟩ : ∃ i : Nat, x = (i : Int) := ⟨x.toNat, by omega⟩
      obtain ⟨x2, rfl⟩ : ∃ i : Nat, x' = (i : Int) := ⟨x'.toNat, by omega⟩
      obtain ⟨y1, rfl⟩ : ∃ i : Nat, y = (i : Int) := ⟨y.toNat, by omega⟩
      obtain ⟨y2, rfl⟩ : ∃ i : Nat, y' = (i : Int) := ⟨y'.toNat, by omega⟩
      have w1' := HWY.out x1 x2 (by omega) (by omega)
      have w2' := HWY.out y1 y2 (by omega) (by omega)
      have HN : Hid (nearTo a lv l ((u1 : Int), (u2 : Int)) (k + 1) = if wayI a lv ((x1 : Int), (x2 : Int)) ((u1 : Int), (u2 : Int)) < wayI a lv ((y1 : Int), (y2 : Int)) ((u1 : Int), (u2 : Int)) then k else r) := Lib.hid (by simp only [nearTo]; rw [hr, getT_of hx, getT_of hy])
      generalize wayI a lv ((x1 : Int), (x2 : Int)) ((u1 : Int), (u2 : Int)) = E1 at w1' HN
      generalize wayI a lv ((y1 : Int), (y2 : Int)) ((u1 : Int), (u2 : Int)) = E2 at w2' HN
      have W1 := Lib.hid w1'
      have W2 := Lib.hid w2'
      rw [hr]
      have HC : Hid (∀ w', Below w.heap.size w w' → w'.cell? ⟨b, o + r * 2, none⟩ = some (.int .i64 (y1 : Int)) ∧ w'.cell? ⟨b, o + r * 2 + 1, none⟩ = some (.int .i64 (y2 : Int))) := Lib.hid fun w' hb' =>
        have hk' := fun o' => ((bcell hb').1 b o' hbb).trans ((bcell hb).1 b o' hbb).symm
        ⟨(hk' _).trans d0, (hk' _).trans d1⟩
      obtain ⟨W, hW⟩ : ∃ W, W = wr.alloc (.cells #[.int .i64 (x1 : Int), .int .i64 (x2 : Int)] 95) := ⟨_, rfl⟩
      have og := hbg.lt
      have oa := hba.lt
      have hbW : Below w.heap.size w W := by rw [hW]; exact (by repeat (first | with_reducible exact Below.refl _ _ | with_reducible assumption | with_reducible refine Below.drew ?_ | with_reducible refine Below.drewN ?_ _ | with_reducible refine Below.alloc2 ?_ _ | with_reducible refine Below.alloc ?_ (by first | omega | (simp <;> omega)) _ | with_reducible refine Below.setCell ?_ (by first | omega | (simp <;> omega)) _ | with_reducible refine Below.step2 (by with_reducible assumption) ?_ | with_reducible refine Below.step (by with_reducible assumption) ?_ (by first | omega | (simp <;> omega))))
      have kg : Bk W w.heap.size 24 #[.int .i64 f, .slice A n c, .slice A2 m c2] := by rw [hW]; exact hbg.alloc _
      have ka : Bk W (w.heap.size + 1) 95 #[.int .i64 (u1 : Int), .int .i64 (u2 : Int)] := by rw [hW]; exact hba.alloc _
      have ks : Bk W wr.heap.size 95 #[.int .i64 (x1 : Int), .int .i64 (x2 : Int)] := by rw [hW]; exact (by repeat (first | with_reducible assumption | with_reducible exact Bk.at_ (by first | (simp; done) | omega) | with_reducible refine Bk.alloc ?_ _ | with_reducible refine Bk.drew ?_ | with_reducible refine Bk.drewN ?_ _ | with_reducible refine Bk.step (by with_reducible assumption) ?_ (by first | omega | (simp <;> omega))))
      have osz : W.heap.size = wr.heap.size + 1 := by rw [hW]; simp
      obtain ⟨⟨g0, g1, g2⟩, -⟩ := kg.three
      obtain ⟨⟨g3, g4⟩, -⟩ := ka.two
      obtain ⟨⟨g5, g6⟩, -⟩ := ks.two
      obtain ⟨i0, i1⟩ := HC.out _ hbW
      have HBW := Lib.hid hbW
      have z1 : (0 : Int) ≤ (r : Int) := by omega
      have z2 : (r : Int) < (k0 : Int) := by omega
      clear e hx hy hx1 hy1 w1' w2' d0 d1 hr
      go_wp2
      rw [← hW]
      clear hW c0 c1 hbW hb hbg hba
      by_cases hd : E1 < E2
      · have HNN : Hid (nearTo a lv l ((u1 : Int), (u2 : Int)) (k + 1) = k) := Lib.hid (by rw [HN.out, if_pos hd])
        go_region_held3 (fun w' => (w'.cell? ⟨w.heap.size, 0, none⟩ = some (.int .i64 f) ∧ w'.cell? ⟨w.heap.size, 1, none⟩ = some (.slice A n c) ∧ w'.cell? ⟨w.heap.size, 2, none⟩ = some (.slice A2 m c2)) ∧ (w'.cell? ⟨w.heap.size + 1, 0, none⟩ = some (.int .i64 (u1 : Int)) ∧ w'.cell? ⟨w.heap.size + 1, 1, none⟩ = some (.int .i64 (u2 : Int))) ∧ (w'.cell? ⟨wr.heap.size, 0, none⟩ = some (.int .i64 (x1 : Int)) ∧ w'.cell? ⟨wr.heap.size, 1, none⟩ = some (.int .i64 (x2 : Int))) ∧ w'.cell? ⟨b, o + r * 2, none⟩ = some (.int .i64 (y1 : Int)) ∧ w'.cell? ⟨b, o + r * 2 + 1, none⟩ = some (.int .i64 (y2 : Int))) (go_keep) (first
                    | (go_at_call 97; with_reducible refine (W1.out _ ?_).mono ?_; (focus (have hb0 := HBW.out; exact (by repeat (first | with_reducible exact Below.refl _ _ | with_reducible assumption | with_reducible refine Below.drew ?_ | with_reducible refine Below.drewN ?_ _ | with_reducible refine Below.alloc2 ?_ _ | with_reducible refine Below.alloc ?_ (by first | omega | (simp <;> omega)) _ | with_reducible refine Below.setCell ?_ (by first | omega | (simp <;> omega)) _ | with_reducible refine Below.step2 (by with_reducible assumption) ?_ | with_reducible refine Below.step (by with_reducible assumption) ?_ (by first | omega | (simp <;> omega)))))); rintro e w1 ⟨hb1, rfl⟩; have kg : Bk w1 w.heap.size 24 #[.int .i64 f, .slice A n c, .slice A2 m c2] := (by repeat (first | with_reducible assumption | with_reducible exact Bk.at_ (by first | (simp; done) | omega) | with_reducible refine Bk.alloc ?_ _ | with_reducible refine Bk.drew ?_ | with_reducible refine Bk.drewN ?_ _ | with_reducible refine Bk.step (by with_reducible assumption) ?_ (by first | omega | (simp <;> omega)))); have ka : Bk w1 (w.heap.size + 1) 95 #[.int .i64 (u1 : Int), .int .i64 (u2 : Int)] := (by repeat (first | with_reducible assumption | with_reducible exact Bk.at_ (by first | (simp; done) | omega) | with_reducible refine Bk.alloc ?_ _ | with_reducible refine Bk.drew ?_ | with_reducible refine Bk.drewN ?_ _ | with_reducible refine Bk.step (by with_reducible assumption) ?_ (by first | omega | (simp <;> omega)))); have ks : Bk w1 wr.heap.size 95 #[.int .i64 (x1 : Int), .int .i64 (x2 : Int)] := (by repeat (first | with_reducible assumption | with_reducible exact Bk.at_ (by first | (simp; done) | omega) | with_reducible refine Bk.alloc ?_ _ | with_reducible refine Bk.drew ?_ | with_reducible refine Bk.drewN ?_ _ | with_reducible refine Bk.step (by with_reducible assumption) ?_ (by first | omega | (simp <;> omega)))); obtain ⟨⟨g0, g1, g2⟩, -⟩ := kg.three; obtain ⟨⟨g3, g4⟩, -⟩ := ka.two; obtain ⟨⟨g5, g6⟩, -⟩ := ks.two; have oz1 := hb1.size; (try simp at oz1); have HB1 : Hid (Below w.heap.size w w1) := Lib.hid (by have hb0 := HBW.out; exact (by repeat (first | with_reducible exact Below.refl _ _ | with_reducible assumption | with_reducible refine Below.drew ?_ | with_reducible refine Below.drewN ?_ _ | with_reducible refine Below.alloc2 ?_ _ | with_reducible refine Below.alloc ?_ (by first | omega | (simp <;> omega)) _ | with_reducible refine Below.setCell ?_ (by first | omega | (simp <;> omega)) _ | with_reducible refine Below.step2 (by with_reducible assumption) ?_ | with_reducible refine Below.step (by with_reducible assumption) ?_ (by first | omega | (simp <;> omega))))); obtain ⟨i0, i1⟩ := HC.out _ HB1.out; have HKG := Lib.hid kg; have HKA := Lib.hid ka)
                    | (go_at_call 97; with_reducible refine (W2.out _ ?_).mono ?_; (focus (have hb0 := HBW.out; exact (by repeat (first | with_reducible exact Below.refl _ _ | with_reducible assumption | with_reducible refine Below.drew ?_ | with_reducible refine Below.drewN ?_ _ | with_reducible refine Below.alloc2 ?_ _ | with_reducible refine Below.alloc ?_ (by first | omega | (simp <;> omega)) _ | with_reducible refine Below.setCell ?_ (by first | omega | (simp <;> omega)) _ | with_reducible refine Below.step2 (by with_reducible assumption) ?_ | with_reducible refine Below.step (by with_reducible assumption) ?_ (by first | omega | (simp <;> omega)))))); rintro e w1 ⟨hb1, rfl⟩; have kg : Bk w1 w.heap.size 24 #[.int .i64 f, .slice A n c, .slice A2 m c2] := (by repeat (first | with_reducible assumption | with_reducible exact Bk.at_ (by first | (simp; done) | omega) | with_reducible refine Bk.alloc ?_ _ | with_reducible refine Bk.drew ?_ | with_reducible refine Bk.drewN ?_ _ | with_reducible refine Bk.step (by with_reducible assumption) ?_ (by first | omega | (simp <;> omega)))); have ka : Bk w1 (w.heap.size + 1) 95 #[.int .i64 (u1 : Int), .int .i64 (u2 : Int)] := (by repeat (first | with_reducible assumption | with_reducible exact Bk.at_ (by first | (simp; done) | omega) | with_reducible refine Bk.alloc ?_ _ | with_reducible refine Bk.drew ?_ | with_reducible refine Bk.drewN ?_ _ | with_reducible refine Bk.step (by with_reducible assumption) ?_ (by first | omega | (simp <;> omega)))); have ks : Bk w1 wr.heap.size 95 #[.int .i64 (x1 : Int), .int .i64 (x2 : Int)] := (by repeat (first | with_reducible assumption | with_reducible exact Bk.at_ (by first | (simp; done) | omega) | with_reducible refine Bk.alloc ?_ _ | with_reducible refine Bk.drew ?_ | with_reducible refine Bk.drewN ?_ _ | with_reducible refine Bk.step (by with_reducible assumption) ?_ (by first | omega | (simp <;> omega)))); obtain ⟨⟨g0, g1, g2⟩, -⟩ := kg.three; obtain ⟨⟨g3, g4⟩, -⟩ := ka.two; obtain ⟨⟨g5, g6⟩, -⟩ := ks.two; have oz1 := hb1.size; (try simp at oz1); have HB1 : Hid (Below w.heap.size w w1) := Lib.hid (by have hb0 := HBW.out; exact (by repeat (first | with_reducible exact Below.refl _ _ | with_reducible assumption | with_reducible refine Below.drew ?_ | with_reducible refine Below.drewN ?_ _ | with_reducible refine Below.alloc2 ?_ _ | with_reducible refine Below.alloc ?_ (by first | omega | (simp <;> omega)) _ | with_reducible refine Below.setCell ?_ (by first | omega | (simp <;> omega)) _ | with_reducible refine Below.step2 (by with_reducible assumption) ?_ | with_reducible refine Below.step (by with_reducible assumption) ?_ (by first | omega | (simp <;> omega))))); obtain ⟨i0, i1⟩ := HC.out _ HB1.out; have HKG := Lib.hid kg; have HKA := Lib.hid ka))
        all_goals go_wp2
        all_goals go_roundw
        case rel => exact ⟨k + 1, by omega, by go_num, by rw [HNN.out], HB1.out, HKG.out, HKA.out⟩
        case measure => simp [intOf]; omega
      · have HNN : Hid (nearTo a lv l ((u1 : Int), (u2 : Int)) (k + 1) = r) := Lib.hid (by rw [HN.out, if_neg hd])
        go_region_held3 (fun w' => (w'.cell? ⟨w.heap.size, 0, none⟩ = some (.int .i64 f) ∧ w'.cell? ⟨w.heap.size, 1, none⟩ = some (.slice A n c) ∧ w'.cell? ⟨w.heap.size, 2, none⟩ = some (.slice A2 m c2)) ∧ (w'.cell? ⟨w.heap.size + 1, 0, none⟩ = some (.int .i64 (u1 : Int)) ∧ w'.cell? ⟨w.heap.size + 1, 1, none⟩ = some (.int .i64 (u2 : Int))) ∧ (w'.cell? ⟨wr.heap.size, 0, none⟩ = some (.int .i64 (x1 : Int)) ∧ w'.cell? ⟨wr.heap.size, 1, none⟩ = some (.int .i64 (x2 : Int))) ∧ w'.cell? ⟨b, o + r * 2, none⟩ = some (.int .i64 (y1 : Int)) ∧ w'.cell? ⟨b, o + r * 2 + 1, none⟩ = some (.int .i64 (y2 : Int))) (go_keep) (first
                    | (go_at_call 97; with_reducible refine (W1.out _ ?_).mono ?_; (focus (have hb0 := HBW.out; exact (by repeat (first | with_reducible exact Below.refl _ _ | with_reducible assumption | with_reducible refine Below.drew ?_ | with_reducible refine Below.drewN ?_ _ | with_reducible refine Below.alloc2 ?_ _ | with_reducible refine Below.alloc ?_ (by first | omega | (simp <;> omega)) _ | with_reducible refine Below.setCell ?_ (by first | omega | (simp <;> omega)) _ | with_reducible refine Below.step2 (by with_reducible assumption) ?_ | with_reducible refine Below.step (by with_reducible assumption) ?_ (by first | omega | (simp <;> omega)))))); rintro e w1 ⟨hb1, rfl⟩; have kg : Bk w1 w.heap.size 24 #[.int .i64 f, .slice A n c, .slice A2 m c2] := (by repeat (first | with_reducible assumption | with_reducible exact Bk.at_ (by first | (simp; done) | omega) | with_reducible refine Bk.alloc ?_ _ | with_reducible refine Bk.drew ?_ | with_reducible refine Bk.drewN ?_ _ | with_reducible refine Bk.step (by with_reducible assumption) ?_ (by first | omega | (simp <;> omega)))); have ka : Bk w1 (w.heap.size + 1) 95 #[.int .i64 (u1 : Int), .int .i64 (u2 : Int)] := (by repeat (first | with_reducible assumption | with_reducible exact Bk.at_ (by first | (simp; done) | omega) | with_reducible refine Bk.alloc ?_ _ | with_reducible refine Bk.drew ?_ | with_reducible refine Bk.drewN ?_ _ | with_reducible refine Bk.step (by with_reducible assumption) ?_ (by first | omega | (simp <;> omega)))); have ks : Bk w1 wr.heap.size 95 #[.int .i64 (x1 : Int), .int .i64 (x2 : Int)] := (by repeat (first | with_reducible assumption | with_reducible exact Bk.at_ (by first | (simp; done) | omega) | with_reducible refine Bk.alloc ?_ _ | with_reducible refine Bk.drew ?_ | with_reducible refine Bk.drewN ?_ _ | with_reducible refine Bk.step (by with_reducible assumption) ?_ (by first | omega | (simp <;> omega)))); obtain ⟨⟨g0, g1, g2⟩, -⟩ := kg.three; obtain ⟨⟨g3, g4⟩, -⟩ := ka.two; obtain ⟨⟨g5, g6⟩, -⟩ := ks.two; have oz1 := hb1.size; (try simp at oz1); have HB1 : Hid (Below w.heap.size w w1) := Lib.hid (by have hb0 := HBW.out; exact (by repeat (first | with_reducible exact Below.refl _ _ | with_reducible assumption | with_reducible refine Below.drew ?_ | with_reducible refine Below.drewN ?_ _ | with_reducible refine Below.alloc2 ?_ _ | with_reducible refine Below.alloc ?_ (by first | omega | (simp <;> omega)) _ | with_reducible refine Below.setCell ?_ (by first | omega | (simp <;> omega)) _ | with_reducible refine Below.step2 (by with_reducible assumption) ?_ | with_reducible refine Below.step (by with_reducible assumption) ?_ (by first | omega | (simp <;> omega))))); obtain ⟨i0, i1⟩ := HC.out _ HB1.out; have HKG := Lib.hid kg; have HKA := Lib.hid ka)
                    | (go_at_call 97; with_reducible refine (W2.out _ ?_).mono ?_; (focus (have hb0 := HBW.out; exact (by repeat (first | with_reducible exact Below.refl _ _ | with_reducible assumption | with_reducible refine Below.drew ?_ | with_reducible refine Below.drewN ?_ _ | with_reducible refine Below.alloc2 ?_ _ | with_reducible refine Below.alloc ?_ (by first | omega | (simp <;> omega)) _ | with_reducible refine Below.setCell ?_ (by first | omega | (simp <;> omega)) _ | with_reducible refine Below.step2 (by with_reducible assumption) ?_ | with_reducible refine Below.step (by with_reducible assumption) ?_ (by first | omega | (simp <;> omega)))))); rintro e w1 ⟨hb1, rfl⟩; have kg : Bk w1 w.heap.size 24 #[.int .i64 f, .slice A n c, .slice A2 m c2] := (by repeat (first | with_reducible assumption | with_reducible exact Bk.at_ (by first | (simp; done) | omega) | with_reducible refine Bk.alloc ?_ _ | with_reducible refine Bk.drew ?_ | with_reducible refine Bk.drewN ?_ _ | with_reducible refine Bk.step (by with_reducible assumption) ?_ (by first | omega | (simp <;> omega)))); have ka : Bk w1 (w.heap.size + 1) 95 #[.int .i64 (u1 : Int), .int .i64 (u2 : Int)] := (by repeat (first | with_reducible assumption | with_reducible exact Bk.at_ (by first | (simp; done) | omega) | with_reducible refine Bk.alloc ?_ _ | with_reducible refine Bk.drew ?_ | with_reducible refine Bk.drewN ?_ _ | with_reducible refine Bk.step (by with_reducible assumption) ?_ (by first | omega | (simp <;> omega)))); have ks : Bk w1 wr.heap.size 95 #[.int .i64 (x1 : Int), .int .i64 (x2 : Int)] := (by repeat (first | with_reducible assumption | with_reducible exact Bk.at_ (by first | (simp; done) | omega) | with_reducible refine Bk.alloc ?_ _ | with_reducible refine Bk.drew ?_ | with_reducible refine Bk.drewN ?_ _ | with_reducible refine Bk.step (by with_reducible assumption) ?_ (by first | omega | (simp <;> omega)))); obtain ⟨⟨g0, g1, g2⟩, -⟩ := kg.three; obtain ⟨⟨g3, g4⟩, -⟩ := ka.two; obtain ⟨⟨g5, g6⟩, -⟩ := ks.two; have oz1 := hb1.size; (try simp at oz1); have HB1 : Hid (Below w.heap.size w w1) := Lib.hid (by have hb0 := HBW.out; exact (by repeat (first | with_reducible exact Below.refl _ _ | with_reducible assumption | with_reducible refine Below.drew ?_ | with_reducible refine Below.drewN ?_ _ | with_reducible refine Below.alloc2 ?_ _ | with_reducible refine Below.alloc ?_ (by first | omega | (simp <;> omega)) _ | with_reducible refine Below.setCell ?_ (by first | omega | (simp <;> omega)) _ | with_reducible refine Below.step2 (by with_reducible assumption) ?_ | with_reducible refine Below.step (by with_reducible assumption) ?_ (by first | omega | (simp <;> omega))))); obtain ⟨i0, i1⟩ := HC.out _ HB1.out; have HKG := Lib.hid kg; have HKA := Lib.hid ka))
        all_goals go_wp2
        all_goals go_roundw
        case rel => exact ⟨k + 1, by omega, by go_num, by rw [HNN.out], HB1.out, HKG.out, HKA.out⟩
        case measure => simp [intOf]; omega
    · obtain rfl : k = k0 := by omega
      clear hb hbg hba
      go_wp2
      go_ret
      exact ⟨HB.out, rfl⟩

end Go.Proofs.YtfnphhmcbdoojaaGreatDoor
