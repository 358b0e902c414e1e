/- The walk of the reference's CheckOutline. -/
import Derived.Test.YtbfbjpnmgcpjlaaRefA
import Derived.Test.YtbfbjpnmgcpjlaaTouch
namespace Go.Proofs.Ytbfbjpnmgcpjlaa
open Go.RowKit

/-- The direction of side k. -/
def dk (l : List (Int × Int)) (k : Nat) : Int := dirP (pt l k) (pt l (nx l k))
theorem dk_bd (l : List (Int × Int)) (k : Nat) : -1 ≤ dk l k ∧ dk l k ≤ 3 := dirP_bd _ _
theorem nx_pv {l : List (Int × Int)} {n k : Nat} (hl : l.length = n) (hk : k < n) : nx l (pv n k) = k := by
  unfold nx pv
  rw [hl]
  split <;> split <;> omega
/-- The reference's test of side k. -/
def badR (l : List (Int × Int)) (k : Nat) : Bool := decide (dk l k < 0) || (decide (0 ≤ dk l (pv l.length k)) && decide ((dk l k - dk l (pv l.length k)).tmod 2 = 0))
theorem tmod2 (x : Int) : x.tmod 2 = if 0 ≤ x then x % 2 else -((-x) % 2) := by
  split
  · exact Int.tmod_eq_emod_of_nonneg (by omega)
  · rw [show x = -(-x) by omega, Int.neg_tmod, Int.tmod_eq_emod_of_nonneg (by omega)]
    simp
theorem badR_eq {l : List (Int × Int)} {k : Nat} (hk : k < l.length) : badR l k = badS (sides l) k := by
  unfold badR badS
  rw [sides_length, sides_sd hk, sides_sd (pv_lt hk)]
  have a := dk_bd l k
  have b := dk_bd l (pv l.length k)
  rw [show (sideK l k).dir = dk l k from rfl, show (sideK l (pv l.length k)).dir = dk l (pv l.length k) from rfl]
  generalize dk l k = d at *
  generalize dk l (pv l.length k) = e at *
  rw [Bool.eq_iff_iff]
  simp only [Bool.or_eq_true, Bool.and_eq_true, decide_eq_true_eq, beq_iff_eq, tmod2]
  omega

theorem altS_true {ss : List Side} (h : ∀ k, k < ss.length → badS ss k = false) : altS ss = true := by
  unfold altS
  rw [List.all_eq_true]
  intro k hk
  rw [h k (by simpa using hk)]
  rfl

set_option maxRecDepth 100000 in
set_option maxHeartbeats 8000000 in
theorem refCheckOutline_any (A : Option Addr) (n c : Nat) (l : List (Int × Int)) (w : World) (h : Pts w w.heap.size A n c l) :
    Calls Try.prog 24 #[.slice A n c] w fun e w' => Below w.heap.size w w' ∧ e = .returned (.int .i64 (outErr l)) := by
  have hcap := h.cap
  have hmax := h.max
  have HLEN := Lib.hid h.len
  have H : Hid (∀ w', Below w.heap.size w w' → Pts w' w'.heap.size A n c l) := fun w' hb => h.below hb (Nat.le_refl _) hb.size
  clear h
  by_cases hs : n < 4 ∨ 40 < n
  · have HE : Hid (outErr l = 11) := Lib.hid (by unfold outErr; rw [HLEN.out, if_pos hs])
    have hwi : decide ((4 : Int) ≤ n ∧ (n : Int) ≤ 40) = false := by rw [decide_eq_false_iff_not]; omega
    have HW := Lib.hid (fun W : World => within_any n 4 40 W)
    rw [hwi] at HW
    clear hwi hs
    go_enter Try.func24, Try.ntmps24
    go_wp2_with (go_at_call 36; refine (HW.out _).mono ?_; rintro e w' ⟨rfl, rfl⟩)
    go_ret
    exact ⟨(by repeat (first | with_reducible exact Below.refl _ _ | with_reducible assumption | with_reducible refine Below.drew ?_ | with_reducible refine Below.drewN ?_ _ | with_reducible refine Below.alloc2 ?_ _ | with_reducible refine Below.alloc ?_ (by first | omega | (simp <;> omega)) _ | with_reducible refine Below.setCell ?_ (by first | omega | (simp <;> omega)) _ | with_reducible refine Below.step2 (by with_reducible assumption) ?_ | with_reducible refine Below.step (by with_reducible assumption) ?_ (by first | omega | (simp <;> omega)))), ret_int HE.out.symm⟩
  · have hs1 : 4 ≤ n := by omega
    have hs2 : n ≤ 40 := by omega
    have HE : Hid (outErr l = if l.all inP = false then 2 else if altS (sides l) = false then 3 else if touchS (sides l) = true then 12 else if twice l < 0 then 10 else 0) := Lib.hid (by unfold outErr; rw [HLEN.out, if_neg hs])
    have hwi : decide ((4 : Int) ≤ n ∧ (n : Int) ≤ 40) = true := by rw [decide_eq_true_eq]; omega
    have HW := Lib.hid (fun W : World => within_any n 4 40 W)
    rw [hwi] at HW
    clear hwi hs
    go_enter Try.func24, Try.ntmps24
    go_wp2_with (go_at_call 36; refine (HW.out _).mono ?_; rintro e w' ⟨rfl, rfl⟩)
    clear HW
    go_loopw [4] (fun i wr => ∃ k : Nat, k ≤ n ∧ i = .int .i64 k ∧ Hid ((l.take k).all inP = true) ∧ Below w.heap.size w wr) (fun i _ => n - (intOf i).toNat)
    case atStart => exact ⟨0, Nat.zero_le _, rfl, Lib.hid rfl, Below.refl _ _⟩
    case round =>
      obtain ⟨k, hk, rfl, hall, hb⟩ := hrel
      by_cases hlt : k < n
      · have hsz := hb.size
        obtain ⟨b, o, x, y, rfl, hbb, hx, c0, c1⟩ := (H.out _ hb).at_ hlt
        have HX := Lib.hid hx
        have HB := Lib.hid hb
        clear hb hx
        rcases h1 : inB x
        · have HP : Hid (inP (x, y) = false) := Lib.hid (by unfold inP; simp [h1])
          go_wp2_with (go_at_call 45; refine (in_any _ _).mono ?_; rintro e w' ⟨rfl, rfl⟩)
          go_ret
          have hb := HB.out
          exact ⟨(by repeat (first | with_reducible exact Below.refl _ _ | with_reducible assumption | with_reducible refine Below.drew ?_ | with_reducible refine Below.drewN ?_ _ | with_reducible refine Below.alloc2 ?_ _ | with_reducible refine Below.alloc ?_ (by first | omega | (simp <;> omega)) _ | with_reducible refine Below.setCell ?_ (by first | omega | (simp <;> omega)) _ | with_reducible refine Below.step2 (by with_reducible assumption) ?_ | with_reducible refine Below.step (by with_reducible assumption) ?_ (by first | omega | (simp <;> omega)))), ret_int (by rw [HE.out, if_pos (allP_not HX.out HP.out)])⟩
        · rcases h2 : inB y
          · have HP : Hid (inP (x, y) = false) := Lib.hid (by unfold inP; simp [h2])
            go_wp2_with (go_at_call 45; refine (in_any _ _).mono ?_; rintro e w' ⟨rfl, rfl⟩)
            go_ret
            have hb := HB.out
            exact ⟨(by repeat (first | with_reducible exact Below.refl _ _ | with_reducible assumption | with_reducible refine Below.drew ?_ | with_reducible refine Below.drewN ?_ _ | with_reducible refine Below.alloc2 ?_ _ | with_reducible refine Below.alloc ?_ (by first | omega | (simp <;> omega)) _ | with_reducible refine Below.setCell ?_ (by first | omega | (simp <;> omega)) _ | with_reducible refine Below.step2 (by with_reducible assumption) ?_ | with_reducible refine Below.step (by with_reducible assumption) ?_ (by first | omega | (simp <;> omega)))), ret_int (by rw [HE.out, if_pos (allP_not HX.out HP.out)])⟩
          · have HP : Hid (inP (x, y) = true) := Lib.hid (by unfold inP; simp [h1, h2])
            go_wp2_with (go_at_call 45; refine (in_any _ _).mono ?_; rintro e w' ⟨rfl, rfl⟩)
            go_roundw
            case rel =>
              have hb := HB.out
              exact ⟨k + 1, by omega, by go_num, Lib.hid (allP_snoc HX.out hall.out HP.out), (by repeat (first | with_reducible exact Below.refl _ _ | with_reducible assumption | with_reducible refine Below.drew ?_ | with_reducible refine Below.drewN ?_ _ | with_reducible refine Below.alloc2 ?_ _ | with_reducible refine Below.alloc ?_ (by first | omega | (simp <;> omega)) _ | with_reducible refine Below.setCell ?_ (by first | omega | (simp <;> omega)) _ | with_reducible refine Below.step2 (by with_reducible assumption) ?_ | with_reducible refine Below.step (by with_reducible assumption) ?_ (by first | omega | (simp <;> omega))))⟩
            case measure => simp [intOf]; omega
      · have HA : Hid (l.all inP = true) := Lib.hid (by have := hall.out; rwa [List.take_of_length_le (by rw [HLEN.out]; omega)] at this)
        have HB0 := Lib.hid hb
        have hE := HE.out
        rw [if_neg (by rw [HA.out]; simp)] at hE
        have HE1 := Lib.hid hE
        obtain ⟨w1, rfl⟩ : ∃ w1 : World, w1 = wr := ⟨_, rfl⟩
        clear hb hall hE HE
        go_wp2_with fail
        clear hk hlt
        go_loopw [5] (fun i wr => ∃ k : Nat, k ≤ n ∧ i = .int .i64 k ∧ Hid (∀ j, j < k → badS (sides l) j = false) ∧ Below w.heap.size w wr) (fun i _ => n - (intOf i).toNat)
        case atStart => exact ⟨0, Nat.zero_le _, rfl, fun j hj => absurd hj (by omega), HB0.out⟩
        case round =>
          obtain ⟨k, hk, rfl, hall, hb⟩ := hrel
          by_cases hlt : k < n
          · have hsz := hb.size
            have hkl : k < l.length := by rw [HLEN.out]; exact hlt
            have hbe := badR_eq hkl
            have hnp := nx_pv HLEN.out hlt
            obtain ⟨b, o, x, y, rfl, hbb, hx, c0, c1⟩ := (H.out _ hb).at_ hlt
            obtain ⟨b', o', u, v, e, hbb', hu, c2, c3⟩ := (H.out _ hb).at_ (pv_lt hlt)
            obtain ⟨rfl, rfl⟩ : b = b' ∧ o = o' := by simpa using e
            have hd : dk l k = dirP (x, y) ((pt l (nx l k)).1, (pt l (nx l k)).2) := by unfold dk; rw [pt_of hx]
            have hp : dk l (pv n k) = dirP (u, v) (x, y) := by unfold dk; rw [hnp, pt_of hx, pt_of hu]
            have HR : Hid (badS (sides l) k = (decide (dk l k < 0) || (decide (0 ≤ dk l (pv n k)) && decide ((dk l k - dk l (pv n k)).tmod 2 = 0)))) := Lib.hid (by rw [← hbe]; unfold badR; rw [HLEN.out])
            have HD := Lib.hid hd
            have HP := Lib.hid hp
            have hmod := pv_mod hlt
            have hj := pv_lt hlt
            have hw1 : IntKind.i64.wrap ((k : Int) + n) = (k : Int) + n := IntWalk.i64_in _ (by omega)
            have hw2 : IntKind.i64.wrap ((k : Int) + n - 1) = (k : Int) + n - 1 := IntWalk.i64_in _ (by omega)
            have hw3 : ((k : Int) + n - 1).tmod n = (pv n k : Int) := by rw [Int.tmod_eq_emod_of_nonneg (by omega), hmod]
            have hn0 : ¬ n = 0 := by omega
            have db := dk_bd l k
            have eb := dk_bd l (pv n k)
            have HNX := Lib.hid (fun (W : World) (hw : Below w.heap.size w W) => next_any (some ⟨b, o, none⟩) n c k l W (H.out W hw) hlt)
            have HB := Lib.hid hb
            generalize pv n k = j at *
            clear hb hx hu e hbe hnp hd hp hkl hbb'
            go_wp2
            go_region_held3 (fun w' => w'.cell? ⟨b, o + k * 2, none⟩ = some (.int .i64 x) ∧ w'.cell? ⟨b, o + k * 2 + 1, none⟩ = some (.int .i64 y) ∧ w'.cell? ⟨b, o + j * 2, none⟩ = some (.int .i64 u) ∧ w'.cell? ⟨b, o + j * 2 + 1, none⟩ = some (.int .i64 v)) (go_keep)
              (first
                | (go_at_call 56; refine (HNX.out _ (by have hb := HB.out; exact (by repeat (first | with_reducible exact Below.refl _ _ | with_reducible assumption | with_reducible refine Below.drew ?_ | with_reducible refine Below.drewN ?_ _ | with_reducible refine Below.alloc2 ?_ _ | with_reducible refine Below.alloc ?_ (by first | omega | (simp <;> omega)) _ | with_reducible refine Below.setCell ?_ (by first | omega | (simp <;> omega)) _ | with_reducible refine Below.step2 (by with_reducible assumption) ?_ | with_reducible refine Below.step (by with_reducible assumption) ?_ (by first | omega | (simp <;> omega)))))).mono ?_; rintro e wd ⟨hbd, rfl⟩; obtain ⟨hcd, -⟩ := bcell hbd; have hzd := hbd.size; (try simp at hzd); replace HB : Hid (Below w.heap.size w wd) := Lib.hid (by have hb := HB.out; exact (by repeat (first | with_reducible exact Below.refl _ _ | with_reducible assumption | with_reducible refine Below.drew ?_ | with_reducible refine Below.drewN ?_ _ | with_reducible refine Below.alloc2 ?_ _ | with_reducible refine Below.alloc ?_ (by first | omega | (simp <;> omega)) _ | with_reducible refine Below.setCell ?_ (by first | omega | (simp <;> omega)) _ | with_reducible refine Below.step2 (by with_reducible assumption) ?_ | with_reducible refine Below.step (by with_reducible assumption) ?_ (by first | omega | (simp <;> omega))))); replace c0 := (hcd _ _ hbb).trans c0; replace c1 := (hcd _ _ hbb).trans c1; replace c2 := (hcd _ _ hbb).trans c2; replace c3 := (hcd _ _ hbb).trans c3; replace hbb : b < wd.heap.size := (by omega); clear hbd hcd)
                | (go_at_call 55; refine (refDir_any _ _ _ _ _).mono ?_; rintro e wd ⟨hbd, rfl⟩; obtain ⟨hcd, -⟩ := bcell hbd; have hzd := hbd.size; (try simp at hzd); replace HB : Hid (Below w.heap.size w wd) := Lib.hid (by have hb := HB.out; exact (by repeat (first | with_reducible exact Below.refl _ _ | with_reducible assumption | with_reducible refine Below.drew ?_ | with_reducible refine Below.drewN ?_ _ | with_reducible refine Below.alloc2 ?_ _ | with_reducible refine Below.alloc ?_ (by first | omega | (simp <;> omega)) _ | with_reducible refine Below.setCell ?_ (by first | omega | (simp <;> omega)) _ | with_reducible refine Below.step2 (by with_reducible assumption) ?_ | with_reducible refine Below.step (by with_reducible assumption) ?_ (by first | omega | (simp <;> omega))))); replace c0 := (hcd _ _ hbb).trans c0; replace c1 := (hcd _ _ hbb).trans c1; replace c2 := (hcd _ _ hbb).trans c2; replace c3 := (hcd _ _ hbb).trans c3; replace hbb : b < wd.heap.size := (by omega); clear hbd hcd))
            all_goals
              simp only [← HD.out, ← HP.out]
              clear HD HP c0 c1 c2 c3 hw1 hw2 hw3 hmod
              generalize dk l k = d at *
              generalize dk l j = p at *
              by_cases q1 : d < 0
              · have HBAD : Hid (altS (sides l) = false) := Lib.hid (altS_false (by rw [sides_length, HLEN.out]; exact hlt) (by rw [HR.out]; simp [q1]))
                go_wp2
                go_ret
                exact ⟨HB.out, ret_int (by rw [HE1.out, if_pos HBAD.out])⟩
              · by_cases q2 : p < 0
                · have HOK : Hid (badS (sides l) k = false) := Lib.hid (by rw [HR.out]; simp; omega)
                  go_wp2
                  go_roundw
                  case rel =>
                    have hb := HB.out
                    refine ⟨k + 1, by omega, by go_num, Lib.hid fun i hi => ?_, (by repeat (first | with_reducible exact Below.refl _ _ | with_reducible assumption | with_reducible refine Below.drew ?_ | with_reducible refine Below.drewN ?_ _ | with_reducible refine Below.alloc2 ?_ _ | with_reducible refine Below.alloc ?_ (by first | omega | (simp <;> omega)) _ | with_reducible refine Below.setCell ?_ (by first | omega | (simp <;> omega)) _ | with_reducible refine Below.step2 (by with_reducible assumption) ?_ | with_reducible refine Below.step (by with_reducible assumption) ?_ (by first | omega | (simp <;> omega))))⟩
                    rcases Nat.lt_or_ge i k with h | h
                    · exact hall.out i h
                    · have e : i = k := by omega
                      rw [e]
                      exact HOK.out
                  case measure => simp [intOf]; omega
                · rcases q3 : ((d - p).tmod 2 == 0)
                  · have HOK : Hid (badS (sides l) k = false) := Lib.hid (by rw [HR.out]; simp at q3; simp [q3]; omega)
                    go_wp2
                    go_roundw
                    case rel =>
                      have hb := HB.out
                      refine ⟨k + 1, by omega, by go_num, Lib.hid fun i hi => ?_, (by repeat (first | with_reducible exact Below.refl _ _ | with_reducible assumption | with_reducible refine Below.drew ?_ | with_reducible refine Below.drewN ?_ _ | with_reducible refine Below.alloc2 ?_ _ | with_reducible refine Below.alloc ?_ (by first | omega | (simp <;> omega)) _ | with_reducible refine Below.setCell ?_ (by first | omega | (simp <;> omega)) _ | with_reducible refine Below.step2 (by with_reducible assumption) ?_ | with_reducible refine Below.step (by with_reducible assumption) ?_ (by first | omega | (simp <;> omega))))⟩
                      rcases Nat.lt_or_ge i k with h | h
                      · exact hall.out i h
                      · have e : i = k := by omega
                        rw [e]
                        exact HOK.out
                    case measure => simp [intOf]; omega
                  · have HBAD : Hid (altS (sides l) = false) := Lib.hid (altS_false (by rw [sides_length, HLEN.out]; exact hlt) (by rw [HR.out]; simp at q3; simp [q3]; omega))
                    go_wp2
                    go_ret
                    exact ⟨HB.out, ret_int (by rw [HE1.out, if_pos HBAD.out])⟩
          · have HAL : Hid (altS (sides l) = true) := Lib.hid (altS_true fun j hj => hall.out j (by rw [sides_length, HLEN.out] at hj; omega))
            have HB1 := Lib.hid hb
            have hE := HE1.out
            rw [if_neg (by rw [HAL.out]; simp)] at hE
            have HE2 := Lib.hid hE
            obtain ⟨w2, rfl⟩ : ∃ w2 : World, w2 = wr := ⟨_, rfl⟩
            clear hb hall hE HE1
            go_wp2_with fail
            clear hk hlt
            go_loopw [8] (fun i wr => ∃ k : Nat, k ≤ n ∧ i = .int .i64 k ∧ Hid (∀ a, a < k → ∀ b, b < n → hitS (sides l) a b = false) ∧ Below w.heap.size w wr) (fun i _ => n - (intOf i).toNat)
            case atStart => exact ⟨0, Nat.zero_le _, rfl, fun j hj => absurd hj (by omega), HB1.out⟩
            case round =>
              obtain ⟨k, hk, rfl, hall, hb⟩ := hrel
              obtain ⟨wo, rfl⟩ : ∃ wo : World, wo = wr := ⟨_, rfl⟩
              by_cases hlt : k < n
              · have HB := Lib.hid hb
                clear hb
                go_wp2
                go_loopw [9] (fun j wr => ∃ m : Nat, k + 1 ≤ m ∧ m ≤ n ∧ j = .int .i64 m ∧ Hid (∀ b, b < m → hitS (sides l) k b = false) ∧ Below w.heap.size w wr) (fun j _ => n + 1 - (intOf j).toNat)
                case atStart =>
                  have hb := HB.out
                  exact ⟨k + 1, by omega, by omega, by go_num, Lib.hid fun b hb => hitS_near (by omega), (by repeat (first | with_reducible exact Below.refl _ _ | with_reducible assumption | with_reducible refine Below.drew ?_ | with_reducible refine Below.drewN ?_ _ | with_reducible refine Below.alloc2 ?_ _ | with_reducible refine Below.alloc ?_ (by first | omega | (simp <;> omega)) _ | with_reducible refine Below.setCell ?_ (by first | omega | (simp <;> omega)) _ | with_reducible refine Below.step2 (by with_reducible assumption) ?_ | with_reducible refine Below.step (by with_reducible assumption) ?_ (by first | omega | (simp <;> omega))))⟩
                case round =>
                  obtain ⟨m, hm1, hm2, rfl, hin, hb⟩ := hrel
                  by_cases hmn : m < n
                  · have HB2 := Lib.hid hb
                    by_cases g1 : m = k + 1
                    · have HOK : Hid (hitS (sides l) k m = false) := Lib.hid (hitS_near (by omega))
                      have hg : ((m : Int) == (k : Int) + 1) = true := by simp; omega
                      clear hb g1
                      go_wp2
                      go_roundw
                      case rel =>
                        have hb := HB2.out
                        refine ⟨m + 1, by omega, by omega, by go_num, Lib.hid fun i hi => ?_, (by repeat (first | with_reducible exact Below.refl _ _ | with_reducible assumption | with_reducible refine Below.drew ?_ | with_reducible refine Below.drewN ?_ _ | with_reducible refine Below.alloc2 ?_ _ | with_reducible refine Below.alloc ?_ (by first | omega | (simp <;> omega)) _ | with_reducible refine Below.setCell ?_ (by first | omega | (simp <;> omega)) _ | with_reducible refine Below.step2 (by with_reducible assumption) ?_ | with_reducible refine Below.step (by with_reducible assumption) ?_ (by first | omega | (simp <;> omega))))⟩
                        rcases Nat.lt_or_ge i m with h | h
                        · exact hin.out i h
                        · have e : i = m := by omega
                          rw [e]
                          exact HOK.out
                      case measure => simp [intOf]; omega
                    · have hg : ((m : Int) == (k : Int) + 1) = false := by simp; omega
                      by_cases g2 : k = 0 ∧ m + 1 = n
                      · have HOK : Hid (hitS (sides l) k m = false) := Lib.hid (hitS_ring g2.1 (by rw [sides_length, HLEN.out]; exact g2.2))
                        have hg1 : ((k : Int) == 0) = true := by simp; omega
                        have hg2 : ((m : Int) == (n : Int) - 1) = true := by simp; omega
                        clear hb g1 g2
                        go_wp2
                        go_roundw
                        case rel =>
                          have hb := HB2.out
                          refine ⟨m + 1, by omega, by omega, by go_num, Lib.hid fun i hi => ?_, (by repeat (first | with_reducible exact Below.refl _ _ | with_reducible assumption | with_reducible refine Below.drew ?_ | with_reducible refine Below.drewN ?_ _ | with_reducible refine Below.alloc2 ?_ _ | with_reducible refine Below.alloc ?_ (by first | omega | (simp <;> omega)) _ | with_reducible refine Below.setCell ?_ (by first | omega | (simp <;> omega)) _ | with_reducible refine Below.step2 (by with_reducible assumption) ?_ | with_reducible refine Below.step (by with_reducible assumption) ?_ (by first | omega | (simp <;> omega))))⟩
                          rcases Nat.lt_or_ge i m with h | h
                          · exact hin.out i h
                          · have e : i = m := by omega
                            rw [e]
                            exact HOK.out
                        case measure => simp [intOf]; omega
                      · have hg3 : k = 0 ∨ ¬ k = 0 := Classical.em _
                        have HM : Hid (hitS (sides l) k m = meetP (pt l k) (pt l (nx l k)) (pt l m) (pt l (nx l m))) := Lib.hid (by
                          rw [hitS_meet (by omega) (by rw [sides_length, HLEN.out]; exact g2), sides_sd (by rw [HLEN.out]; exact hlt), sides_sd (by rw [HLEN.out]; exact hmn)]
                          rfl)
                        obtain ⟨b, o, x, y, rfl, hbb, hx, c0, c1⟩ := (H.out _ hb).at_ hlt
                        obtain ⟨b', o', u, v, e, hbb', hu, c2, c3⟩ := (H.out _ hb).at_ hmn
                        obtain ⟨rfl, rfl⟩ : b = b' ∧ o = o' := by simpa using e
                        have hm' := HM.out
                        rw [pt_of hx, pt_of hu] at hm'
                        have HM2 := Lib.hid hm'
                        have hsz := hb.size
                        have HNX := Lib.hid (fun (W : World) (i : Nat) (hi : i < n) (hw : Below w.heap.size w W) => next_any (some ⟨b, o, none⟩) n c i l W (H.out W hw) hi)
                        have HTO := Lib.hid (fun W : World => refTouch_any x y (pt l (nx l k)).1 (pt l (nx l k)).2 u v (pt l (nx l m)).1 (pt l (nx l m)).2 W)
                        have HME : Hid (meetP (x, y) ((pt l (nx l k)).1, (pt l (nx l k)).2) (u, v) ((pt l (nx l m)).1, (pt l (nx l m)).2) = hitS (sides l) k m) := Lib.hid hm'.symm
                        rw [HME.out] at HTO
                        have hng : ((k : Int) == 0 && (m : Int) == (n : Int) - 1) = false := by
                          rw [Bool.eq_false_iff]
                          simp
                          omega
                        clear hm' hb hx hu e hbb' HM HM2 HME
                        rcases hq : hitS (sides l) k m
                        all_goals
                          have HOK := Lib.hid hq
                          rw [hq] at HTO
                          clear hq
                          by_cases hk0 : k = 0
                        all_goals
                          first
                            | (have hk1 : ((k : Int) == 0) = false := (by simp; omega); clear hng g1 g2 hg3 hk0)
                            | (have hk1 : ((k : Int) == 0) = true := (by simp; omega)
                               have hk2 : ((m : Int) == (n : Int) - 1) = false := (by simp; omega); clear hng g1 g2 hg3 hk0)
                          go_wp2
                          go_region_held3 (fun w' => w'.cell? ⟨b, o + k * 2, none⟩ = some (.int .i64 x) ∧ w'.cell? ⟨b, o + k * 2 + 1, none⟩ = some (.int .i64 y) ∧ w'.cell? ⟨b, o + m * 2, none⟩ = some (.int .i64 u) ∧ w'.cell? ⟨b, o + m * 2 + 1, none⟩ = some (.int .i64 v)) (go_keep)
                            (first
                              | (go_at_call 56; refine (HNX.out _ _ (by assumption) (by have hb := HB2.out; exact (by repeat (first | with_reducible exact Below.refl _ _ | with_reducible assumption | with_reducible refine Below.drew ?_ | with_reducible refine Below.drewN ?_ _ | with_reducible refine Below.alloc2 ?_ _ | with_reducible refine Below.alloc ?_ (by first | omega | (simp <;> omega)) _ | with_reducible refine Below.setCell ?_ (by first | omega | (simp <;> omega)) _ | with_reducible refine Below.step2 (by with_reducible assumption) ?_ | with_reducible refine Below.step (by with_reducible assumption) ?_ (by first | omega | (simp <;> omega)))))).mono ?_; rintro e wd ⟨hbd, rfl⟩; obtain ⟨hcd, -⟩ := bcell hbd; have hzd := hbd.size; (try simp at hzd); replace HB2 : Hid (Below w.heap.size w wd) := Lib.hid (by have hb := HB2.out; exact (by repeat (first | with_reducible exact Below.refl _ _ | with_reducible assumption | with_reducible refine Below.drew ?_ | with_reducible refine Below.drewN ?_ _ | with_reducible refine Below.alloc2 ?_ _ | with_reducible refine Below.alloc ?_ (by first | omega | (simp <;> omega)) _ | with_reducible refine Below.setCell ?_ (by first | omega | (simp <;> omega)) _ | with_reducible refine Below.step2 (by with_reducible assumption) ?_ | with_reducible refine Below.step (by with_reducible assumption) ?_ (by first | omega | (simp <;> omega))))); replace c0 := (hcd _ _ hbb).trans c0; replace c1 := (hcd _ _ hbb).trans c1; replace c2 := (hcd _ _ hbb).trans c2; replace c3 := (hcd _ _ hbb).trans c3; replace hbb : b < wd.heap.size := (by omega); clear hbd hcd)
                              | (go_at_call 57; refine (HTO.out _).mono ?_; rintro e wd ⟨hbd, rfl⟩; obtain ⟨hcd, -⟩ := bcell hbd; have hzd := hbd.size; (try simp at hzd); replace HB2 : Hid (Below w.heap.size w wd) := Lib.hid (by have hb := HB2.out; exact (by repeat (first | with_reducible exact Below.refl _ _ | with_reducible assumption | with_reducible refine Below.drew ?_ | with_reducible refine Below.drewN ?_ _ | with_reducible refine Below.alloc2 ?_ _ | with_reducible refine Below.alloc ?_ (by first | omega | (simp <;> omega)) _ | with_reducible refine Below.setCell ?_ (by first | omega | (simp <;> omega)) _ | with_reducible refine Below.step2 (by with_reducible assumption) ?_ | with_reducible refine Below.step (by with_reducible assumption) ?_ (by first | omega | (simp <;> omega))))); replace c0 := (hcd _ _ hbb).trans c0; replace c1 := (hcd _ _ hbb).trans c1; replace c2 := (hcd _ _ hbb).trans c2; replace c3 := (hcd _ _ hbb).trans c3; replace hbb : b < wd.heap.size := (by omega); clear hbd hcd))
                        all_goals
                          go_wp2
                          first
                            | (go_ret
                               exact ⟨HB2.out, ret_int (by rw [HE2.out, if_pos (touchS_true (by rw [sides_length, HLEN.out]; exact hlt) (by rw [sides_length, HLEN.out]; exact hmn) HOK.out)])⟩)
                            | (go_roundw
                               case rel =>
                                 have hb := HB2.out
                                 refine ⟨m + 1, by omega, by omega, by go_num, Lib.hid fun i hi => ?_, (by repeat (first | with_reducible exact Below.refl _ _ | with_reducible assumption | with_reducible refine Below.drew ?_ | with_reducible refine Below.drewN ?_ _ | with_reducible refine Below.alloc2 ?_ _ | with_reducible refine Below.alloc ?_ (by first | omega | (simp <;> omega)) _ | with_reducible refine Below.setCell ?_ (by first | omega | (simp <;> omega)) _ | with_reducible refine Below.step2 (by with_reducible assumption) ?_ | with_reducible refine Below.step (by with_reducible assumption) ?_ (by first | omega | (simp <;> omega))))⟩
                                 rcases Nat.lt_or_ge i m with h | h
                                 · exact hin.out i h
                                 · have e : i = m := by omega
                                   rw [e]
                                   exact HOK.out
                               case measure => simp [intOf]; omega)
                  · have HB2 := Lib.hid hb
                    clear hb
                    go_wp2
                    go_roundw
                    case rel =>
                      have hb := HB2.out
                      refine ⟨k + 1, by omega, by go_num, Lib.hid fun a ha b hbn => ?_, (by repeat (first | with_reducible exact Below.refl _ _ | with_reducible assumption | with_reducible refine Below.drew ?_ | with_reducible refine Below.drewN ?_ _ | with_reducible refine Below.alloc2 ?_ _ | with_reducible refine Below.alloc ?_ (by first | omega | (simp <;> omega)) _ | with_reducible refine Below.setCell ?_ (by first | omega | (simp <;> omega)) _ | with_reducible refine Below.step2 (by with_reducible assumption) ?_ | with_reducible refine Below.step (by with_reducible assumption) ?_ (by first | omega | (simp <;> omega))))⟩
                      rcases Nat.lt_or_ge a k with h | h
                      · exact hall.out a h b hbn
                      · have e : a = k := by omega
                        rw [e]
                        exact hin.out b (by omega)
                    case measure => simp [intOf]; omega
              · have HT : Hid (touchS (sides l) = false) := Lib.hid (touchS_false fun a ha b hbn => by
                  rw [sides_length, HLEN.out] at ha hbn
                  exact hall.out a (by omega) b hbn)
                have hE := HE2.out
                rw [if_neg (by rw [HT.out]; simp)] at hE
                have HE3 := Lib.hid hE
                have HTW := Lib.hid (refTwice_any A n c l _ (H.out _ hb) (by omega) HA.out)
                have hbd := twiceTo_bd HA.out n (by rw [HLEN.out]; exact Nat.le_refl _)
                have htw : twice l = twiceTo l n := by unfold twice; rw [HLEN.out]
                rw [← htw] at hbd
                have HB := Lib.hid hb
                clear hE hb htw hall
                generalize twice l = T at *
                by_cases hT : T < 0
                all_goals
                  go_wp2_with fail
                  refine HTW.out.mono ?_
                  rintro e w9 ⟨hb9, rfl⟩
                  go_wp2
                  go_ret
                  have hb := HB.out
                  exact ⟨(by repeat (first | with_reducible exact Below.refl _ _ | with_reducible assumption | with_reducible refine Below.drew ?_ | with_reducible refine Below.drewN ?_ _ | with_reducible refine Below.alloc2 ?_ _ | with_reducible refine Below.alloc ?_ (by first | omega | (simp <;> omega)) _ | with_reducible refine Below.setCell ?_ (by first | omega | (simp <;> omega)) _ | with_reducible refine Below.step2 (by with_reducible assumption) ?_ | with_reducible refine Below.step (by with_reducible assumption) ?_ (by first | omega | (simp <;> omega)))), ret_int (by rw [HE3.out]; first | rw [if_pos hT] | rw [if_neg (by omega)])⟩

end Go.Proofs.Ytbfbjpnmgcpjlaa
