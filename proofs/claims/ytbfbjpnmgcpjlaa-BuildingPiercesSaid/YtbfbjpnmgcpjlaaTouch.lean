/- The walk of touch: whether two sides that do not follow each other meet. -/
import Derived.Test.YtbfbjpnmgcpjlaaMeet
namespace Go.Proofs.Ytbfbjpnmgcpjlaa
open Go.RowKit

def meetS (s t : Side) : Bool := meetP (s.x1, s.y1) (s.x2, s.y2) (t.x1, t.y1) (t.x2, t.y2)
/-- Sides a and b, b behind a and not beside it, meet. -/
def hitS (ss : List Side) (a b : Nat) : Bool := decide (a + 2 ≤ b) && !(decide (a = 0) && decide (b + 1 = ss.length)) && meetS (sd ss a) (sd ss b)
def touchS (ss : List Side) : Bool := (List.range ss.length).any fun a => (List.range ss.length).any fun b => hitS ss a b
theorem touchS_true {ss : List Side} {a b : Nat} (ha : a < ss.length) (hb : b < ss.length) (h : hitS ss a b = true) : touchS ss = true := by
  unfold touchS
  rw [List.any_eq_true]
  refine ⟨a, by simpa using ha, ?_⟩
  rw [List.any_eq_true]
  exact ⟨b, by simpa using hb, h⟩
theorem touchS_false {ss : List Side} (h : ∀ a, a < ss.length → ∀ b, b < ss.length → hitS ss a b = false) : touchS ss = false := by
  unfold touchS
  rw [List.any_eq_false]
  intro a ha
  rw [Bool.not_eq_true, List.any_eq_false]
  intro b hb
  rw [h a (by simpa using ha) b (by simpa using hb)]
  simp
theorem hitS_near {ss : List Side} {a b : Nat} (h : b < a + 2) : hitS ss a b = false := by unfold hitS; rw [decide_eq_false (by omega)]; rfl
theorem hitS_ring {ss : List Side} {a b : Nat} (h : a = 0) (h2 : b + 1 = ss.length) : hitS ss a b = false := by unfold hitS; simp [h, h2]
theorem hitS_meet {ss : List Side} {a b : Nat} (h : a + 2 ≤ b) (h2 : ¬ (a = 0 ∧ b + 1 = ss.length)) : hitS ss a b = meetS (sd ss a) (sd ss b) := by
  unfold hitS
  rw [decide_eq_true h]
  have : (decide (a = 0) && decide (b + 1 = ss.length)) = false := by
    rw [← Bool.decide_and, decide_eq_false_iff_not]; exact h2
  rw [this]; rfl

set_option maxRecDepth 100000 in
set_option maxHeartbeats 4000000 in
theorem touch_any (A : Option Addr) (n c : Nat) (ss : List Side) (w : World) (h : Walls w w.heap.size A n c ss) (hn : n ≤ 1099511627776) :
    Calls Try.prog 61 #[.slice A n c] w fun e w' => Below w.heap.size w w' ∧ e = .returned (.bool (touchS ss)) := by
  have hcap := h.cap
  have hmax := h.max
  have HLEN := Lib.hid h.len
  have H : Hid (∀ w', Below w.heap.size w w' → Walls w' w'.heap.size A n c ss) := fun w' hb => h.below hb (Nat.le_refl _) hb.size
  clear h
  go_enter Try.func61, Try.ntmps61
  go_wp2
  go_loopw [8] (fun i wr => ∃ k : Nat, k ≤ n ∧ i = .int .i64 k ∧ Hid (∀ a, a < k → ∀ b, b < n → hitS ss a b = false) ∧ Below w.heap.size w wr) (fun i _ => n - (intOf i).toNat)
  case atStart => exact ⟨0, Nat.zero_le _, rfl, fun j hj => absurd hj (by omega), Below.refl _ _⟩
  case round =>
    obtain ⟨k, hk, rfl, hall, hb⟩ := hrel
    obtain ⟨wo, rfl⟩ : ∃ wo : World, wo = wr := ⟨_, rfl⟩
    by_cases hlt : k < n
    · have HB := Lib.hid hb
      clear hb
      go_wp2
      go_loopw [4] (fun j wr => ∃ m : Nat, k + 2 ≤ m ∧ m ≤ n + 1 ∧ j = .int .i64 m ∧ Hid (∀ b, b < m → hitS ss k b = false) ∧ Below w.heap.size w wr) (fun j _ => n + 1 - (intOf j).toNat)
      case atStart =>
        have hb := HB.out
        exact ⟨k + 2, by omega, by omega, by go_num, Lib.hid fun b hb => hitS_near hb, (by repeat (first | with_reducible exact Below.refl _ _ | with_reducible assumption | with_reducible refine Below.drew ?_ | with_reducible refine Below.drewN ?_ _ | with_reducible refine Below.alloc2 ?_ _ | with_reducible refine Below.alloc ?_ (by first | omega | (simp <;> omega)) _ | with_reducible refine Below.setCell ?_ (by first | omega | (simp <;> omega)) _ | with_reducible refine Below.step2 (by with_reducible assumption) ?_ | with_reducible refine Below.step (by with_reducible assumption) ?_ (by first | omega | (simp <;> omega))))⟩
      case round =>
        obtain ⟨m, hm1, hm2, rfl, hin, hb⟩ := hrel
        by_cases hmn : m < n
        · have hsz := hb.size
          obtain ⟨b, o, s, rfl, hbb, hx, c0, c1, c2, c3, c4, c5⟩ := (H.out _ hb).at_ hlt
          obtain ⟨b', o', t, e, hbb', hu, d0, d1, d2, d3, d4, d5⟩ := (H.out _ hb).at_ hmn
          obtain ⟨rfl, rfl⟩ : b = b' ∧ o = o' := by simpa using e
          have HX := Lib.hid (sd_of hx)
          have HU := Lib.hid (sd_of hu)
          have HB2 := Lib.hid hb
          clear hx hu e hbb' hb
          by_cases hf : k = 0 ∧ m + 1 = n
          · obtain ⟨rfl, hf⟩ := hf
            have hf2 : ((m : Int) == (n : Int) - 1) = true := by simp; omega
            have HF := Lib.hid hf
            clear hf
            go_wp2
            go_quiet (fail)
            go_wp2
            go_roundw
            case rel =>
              have hb := HB2.out
              refine ⟨m + 1, by omega, by omega, by go_num, Lib.hid fun b hb => ?_, (by repeat (first | with_reducible exact Below.refl _ _ | with_reducible assumption | with_reducible refine Below.drew ?_ | with_reducible refine Below.drewN ?_ _ | with_reducible refine Below.alloc2 ?_ _ | with_reducible refine Below.alloc ?_ (by first | omega | (simp <;> omega)) _ | with_reducible refine Below.setCell ?_ (by first | omega | (simp <;> omega)) _ | with_reducible refine Below.step2 (by with_reducible assumption) ?_ | with_reducible refine Below.step (by with_reducible assumption) ?_ (by first | omega | (simp <;> omega))))⟩
              rcases Nat.lt_or_ge b m with h | h
              · exact hin.out b h
              · have e : b = m := by omega
                rw [e]
                exact hitS_ring rfl (by rw [HLEN.out]; exact HF.out)
            case measure => simp [intOf]; omega
          · have HM : Hid (hitS ss k m = meetS s t) := Lib.hid (by rw [hitS_meet hm1 (by rw [HLEN.out]; exact hf), HX.out, HU.out])
            have hm0 : k + 2 ≤ m := hm1
            rcases hq : meetS s t
            all_goals
              have HQ := Lib.hid hq
              unfold meetS at hq
              have HT := Lib.hid (fun W : World => meet_any s.x1 s.y1 s.x2 s.y2 s.len s.dir t.x1 t.y1 t.x2 t.y2 t.len t.dir W)
              rw [hq] at HT
              clear hq
              by_cases hk0 : k = 0
            all_goals
              have ht1 : ((k : Int) == 0 && (m : Int) == (n : Int) - 1) = false := by
                rw [Bool.eq_false_iff]
                simp
                omega
              first
                | (have hk1 : ((k : Int) == 0) = false := (by simp; omega); clear ht1 hf hk0)
                | (have hk1 : ((k : Int) == 0) = true := (by simp; omega)
                   have hk2 : ((m : Int) == (n : Int) - 1) = false := (by simp; omega); clear ht1 hf hk0)
              go_wp2
              go_region_held3 (fun w' => w'.cell? ⟨b, o + k * 6, none⟩ = some (.int .i64 s.x1) ∧ w'.cell? ⟨b, o + k * 6 + 1, none⟩ = some (.int .i64 s.y1) ∧ w'.cell? ⟨b, o + k * 6 + 2, none⟩ = some (.int .i64 s.x2) ∧ w'.cell? ⟨b, o + k * 6 + 3, none⟩ = some (.int .i64 s.y2) ∧ w'.cell? ⟨b, o + k * 6 + 4, none⟩ = some (.int .i64 s.len) ∧ w'.cell? ⟨b, o + k * 6 + 5, none⟩ = some (.int .i64 s.dir) ∧
                  w'.cell? ⟨b, o + m * 6, none⟩ = some (.int .i64 t.x1) ∧ w'.cell? ⟨b, o + m * 6 + 1, none⟩ = some (.int .i64 t.y1) ∧ w'.cell? ⟨b, o + m * 6 + 2, none⟩ = some (.int .i64 t.x2) ∧ w'.cell? ⟨b, o + m * 6 + 3, none⟩ = some (.int .i64 t.y2) ∧ w'.cell? ⟨b, o + m * 6 + 4, none⟩ = some (.int .i64 t.len) ∧ w'.cell? ⟨b, o + m * 6 + 5, none⟩ = some (.int .i64 t.dir)) (go_keep)
                (first
                  | (go_at_call 76; refine (HT.out _).mono ?_; rintro e wd ⟨hbd, rfl⟩; obtain ⟨hcd, hfd⟩ := bcell hbd; have hzd := hbd.size; simp at hzd; have HBD := Lib.hid hbd; have ob : b < wr.heap.size := (by omega); have r0 := (hcd _ _ ob).trans c0; have r1 := (hcd _ _ ob).trans c1; have r2 := (hcd _ _ ob).trans c2; have r3 := (hcd _ _ ob).trans c3; have r4 := (hcd _ _ ob).trans c4; have r5 := (hcd _ _ ob).trans c5; have s0 := (hcd _ _ ob).trans d0; have s1 := (hcd _ _ ob).trans d1; have s2 := (hcd _ _ ob).trans d2; have s3 := (hcd _ _ ob).trans d3; have s4 := (hcd _ _ ob).trans d4; have s5 := (hcd _ _ ob).trans d5))
              go_wp2
              have hb := HB2.out
              have hbd := HBD.out
              first
                | (go_ret
                   exact ⟨(by repeat (first | with_reducible exact Below.refl _ _ | with_reducible assumption | with_reducible refine Below.drew ?_ | with_reducible refine Below.drewN ?_ _ | with_reducible refine Below.alloc2 ?_ _ | with_reducible refine Below.alloc ?_ (by first | omega | (simp <;> omega)) _ | with_reducible refine Below.setCell ?_ (by first | omega | (simp <;> omega)) _ | with_reducible refine Below.step2 (by with_reducible assumption) ?_ | with_reducible refine Below.step (by with_reducible assumption) ?_ (by first | omega | (simp <;> omega)))), ret_bool (touchS_true (by rw [HLEN.out]; exact hlt) (by rw [HLEN.out]; exact hmn) (by rw [HM.out]; exact HQ.out)).symm⟩)
                | (go_roundw
                   case rel =>
                     refine ⟨m + 1, by omega, by omega, by go_num, Lib.hid fun b hb => ?_, (by repeat (first | with_reducible exact Below.refl _ _ | with_reducible assumption | with_reducible refine Below.drew ?_ | with_reducible refine Below.drewN ?_ _ | with_reducible refine Below.alloc2 ?_ _ | with_reducible refine Below.alloc ?_ (by first | omega | (simp <;> omega)) _ | with_reducible refine Below.setCell ?_ (by first | omega | (simp <;> omega)) _ | with_reducible refine Below.step2 (by with_reducible assumption) ?_ | with_reducible refine Below.step (by with_reducible assumption) ?_ (by first | omega | (simp <;> omega))))⟩
                     rcases Nat.lt_or_ge b m with h | h
                     · exact hin.out b h
                     · have e : b = m := by omega
                       rw [e, HM.out]
                       exact HQ.out
                   case measure => simp [intOf]; omega)
        · have HB2 := Lib.hid hb
          clear hb
          go_wp2
          go_roundw
          case rel =>
            have hb := HB2.out
            refine ⟨k + 1, by omega, by go_num, Lib.hid fun a ha b hbn => ?_, (by repeat (first | with_reducible exact Below.refl _ _ | with_reducible assumption | with_reducible refine Below.drew ?_ | with_reducible refine Below.drewN ?_ _ | with_reducible refine Below.alloc2 ?_ _ | with_reducible refine Below.alloc ?_ (by first | omega | (simp <;> omega)) _ | with_reducible refine Below.setCell ?_ (by first | omega | (simp <;> omega)) _ | with_reducible refine Below.step2 (by with_reducible assumption) ?_ | with_reducible refine Below.step (by with_reducible assumption) ?_ (by first | omega | (simp <;> omega))))⟩
            rcases Nat.lt_or_ge a k with h | h
            · exact hall.out a h b hbn
            · have e : a = k := by omega
              rw [e]
              exact hin.out b (by omega)
          case measure => simp [intOf]; omega
    · have HB := Lib.hid hb
      have HE : Hid (k = n) := Lib.hid (by omega)
      clear hb
      go_wp2
      go_ret
      refine ⟨HB.out, ret_bool (touchS_false fun a ha b hbn => hall.out a ?_ b ?_).symm⟩
      · rw [HE.out, ← HLEN.out]; exact ha
      · rw [← HLEN.out]; exact hbn

end Go.Proofs.Ytbfbjpnmgcpjlaa
