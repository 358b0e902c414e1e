/- Chapter 9, walks: of the law hire. -/
import Derived.Test.YtbeijeblbchglaaLotsOf9
namespace Go.Proofs.Ytbeijeblbchglaa
open Go.RowKit Go.WideShapes

def szT (x : Q4) : Bool := decide (x.s.size ≤ 30)
def szM (x : Mv) : Bool := decide (x.p.size ≤ 30)
def lenB (tn n : Nat) : Bool := decide ((tn ≤ 8 ∨ 60 < tn ∧ tn ≤ 65) ∧ (n ≤ 40 ∨ 300 < n ∧ n ≤ 305))
def hB (t : List Q4) (l : List Mv) : Bool := lenB t.length l.length && (t.all szT && l.all szM)
theorem hB_facts {t : List Q4} {l : List Mv} (h : hB t l = true) : ((t.length ≤ 8 ∨ 60 < t.length ∧ t.length ≤ 65) ∧ (l.length ≤ 40 ∨ 300 < l.length ∧ l.length ≤ 305)) ∧ (∀ x ∈ t, x.s.size ≤ 30) ∧ (∀ x ∈ l, x.p.size ≤ 30) := by
  unfold hB at h
  simp only [Bool.and_eq_true] at h
  refine ⟨of_decide_eq_true h.1, fun x hx => ?_, fun x hx => ?_⟩
  · have := List.all_eq_true.1 h.2.1 x hx
    unfold szT at this
    exact of_decide_eq_true this
  · have := List.all_eq_true.1 h.2.2 x hx
    unfold szM at this
    exact of_decide_eq_true this
theorem all_step {α : Type} {q : α → Bool} {l : List α} {k : Nat} {x : α} (hx : l[k]? = some x) (h : (l.drop k).all q = l.all q) : (q x = false → l.all q = false) ∧ (q x = true → (l.drop (k + 1)).all q = l.all q) := by
  rw [drop_step hx, List.all_cons] at h
  exact ⟨fun e => by rw [e] at h; exact h.symm, fun e => by rw [e] at h; exact h⟩
set_option maxHeartbeats 4000000 in
theorem hire_any (T A : Option Addr) (tn tc n c B : Nat) (t : List Q4) (l : List Mv) (w : World) (ht : Rws Q4.cs 4 w B T tn tc t) (h : Rws Mv.cs 4 w B A n c l) :
    Calls Try.prog 19 #[.slice T tn tc, .slice A n c] w fun e w' => w = w' ∧ e = .returned (.bool (hB t l)) := by
  have hcap := h.cap
  have hmax := h.max
  have hcapt := ht.cap
  have hmaxt := ht.max
  have HTL := Lib.hid ht.len
  have HLL := Lib.hid h.len
  by_cases q1 : 8 < tn
  · by_cases q2 : tn ≤ 60
    · (
          have HR : Hid (hB t l = false) := Lib.hid (by
            have : lenB t.length l.length = false := decide_eq_false (by rw [HTL.out, HLL.out]; omega)
            rw [hB, this]
            rfl)
          go_enter Try.func19, Try.ntmps19
          go_wp2
          go_ret
          exact ⟨rfl, ret_bool HR.out.symm⟩)
    · by_cases q3 : 65 < tn
      · (
            have HR : Hid (hB t l = false) := Lib.hid (by
              have : lenB t.length l.length = false := decide_eq_false (by rw [HTL.out, HLL.out]; omega)
              rw [hB, this]
              rfl)
            go_enter Try.func19, Try.ntmps19
            go_wp2
            go_ret
            exact ⟨rfl, ret_bool HR.out.symm⟩)
      · by_cases q4 : 40 < n
        · by_cases q5 : n ≤ 300
          · (
                have HR : Hid (hB t l = false) := Lib.hid (by
                  have : lenB t.length l.length = false := decide_eq_false (by rw [HTL.out, HLL.out]; omega)
                  rw [hB, this]
                  rfl)
                go_enter Try.func19, Try.ntmps19
                go_wp2
                go_ret
                exact ⟨rfl, ret_bool HR.out.symm⟩)
          · by_cases q6 : 305 < n
            · (
                  have HR : Hid (hB t l = false) := Lib.hid (by
                    have : lenB t.length l.length = false := decide_eq_false (by rw [HTL.out, HLL.out]; omega)
                    rw [hB, this]
                    rfl)
                  go_enter Try.func19, Try.ntmps19
                  go_wp2
                  go_ret
                  exact ⟨rfl, ret_bool HR.out.symm⟩)
            · (
                  have HB : Hid (hB t l = (t.all szT && l.all szM)) := Lib.hid (by
                    have : lenB t.length l.length = true := decide_eq_true (by rw [HTL.out, HLL.out]; omega)
                    rw [hB, this]
                    rfl)
                  go_enter Try.func19, Try.ntmps19
                  go_wp2
                  go_loop [5] (fun i => ∃ k : Nat, k ≤ tn ∧ i = .int .i64 k ∧ Hid ((t.drop k).all szT = t.all szT)) (fun i => tn - (intOf i).toNat)
                  case atStart => exact ⟨0, Nat.zero_le _, rfl, Lib.hid rfl⟩
                  case round =>
                    obtain ⟨k, hk, rfl, HA⟩ := hrel
                    by_cases hlt : k < tn
                    · obtain ⟨b, o, ⟨xs, xa, xb, xc⟩, rfl, hb, hx, c0, c1, c2, c3⟩ := ht.q4 hlt
                      dsimp only at c0 c1 c2 c3
                      have HT := Lib.hid (all_step hx HA.out)
                      clear hx
                      by_cases h30 : xs.size ≤ 30
                      · go_wp2
                        go_round
                        case rel => exact ⟨k + 1, by omega, by go_num, Lib.hid (HT.out.2 (decide_eq_true h30))⟩
                        case measure => simp [intOf]; omega
                      · go_wp2
                        go_ret
                        exact ⟨rfl, ret_bool (by rw [HB.out, HT.out.1 (decide_eq_false h30)]; rfl)⟩
                    · have HTA : Hid (t.all szT = true) := Lib.hid (by
                        have := HA.out
                        rw [List.drop_eq_nil_of_le (by rw [HTL.out]; omega)] at this
                        rw [← this]
                        rfl)
                      clear HA
                      go_wp2
                      go_loop [6] (fun i => ∃ j : Nat, j ≤ n ∧ i = .int .i64 j ∧ Hid ((l.drop j).all szM = l.all szM)) (fun i => n - (intOf i).toNat)
                      case atStart => exact ⟨0, Nat.zero_le _, rfl, Lib.hid rfl⟩
                      case round =>
                        obtain ⟨j, hj, rfl, HA⟩ := hrel
                        by_cases hlt2 : j < n
                        · obtain ⟨b, o, ⟨xd, xk, xp, xn⟩, rfl, hb, hx, c0, c1, c2, c3⟩ := h.mv hlt2
                          dsimp only at c0 c1 c2 c3
                          have HT := Lib.hid (all_step hx HA.out)
                          clear hx
                          by_cases h30 : xp.size ≤ 30
                          · go_wp2
                            go_round
                            case rel => exact ⟨j + 1, by omega, by go_num, Lib.hid (HT.out.2 (decide_eq_true h30))⟩
                            case measure => simp [intOf]; omega
                          · go_wp2
                            go_ret
                            exact ⟨rfl, ret_bool (by rw [HB.out, HTA.out, HT.out.1 (decide_eq_false h30)]; rfl)⟩
                        · go_wp2
                          go_ret
                          refine ⟨rfl, ret_bool ?_⟩
                          have := HA.out
                          rw [List.drop_eq_nil_of_le (by rw [HLL.out]; omega)] at this
                          rw [HB.out, HTA.out, ← this]
                          rfl)
        · have q6 : ¬ 305 < n := by omega
          (
              have HB : Hid (hB t l = (t.all szT && l.all szM)) := Lib.hid (by
                have : lenB t.length l.length = true := decide_eq_true (by rw [HTL.out, HLL.out]; omega)
                rw [hB, this]
                rfl)
              go_enter Try.func19, Try.ntmps19
              go_wp2
              go_loop [5] (fun i => ∃ k : Nat, k ≤ tn ∧ i = .int .i64 k ∧ Hid ((t.drop k).all szT = t.all szT)) (fun i => tn - (intOf i).toNat)
              case atStart => exact ⟨0, Nat.zero_le _, rfl, Lib.hid rfl⟩
              case round =>
                obtain ⟨k, hk, rfl, HA⟩ := hrel
                by_cases hlt : k < tn
                · obtain ⟨b, o, ⟨xs, xa, xb, xc⟩, rfl, hb, hx, c0, c1, c2, c3⟩ := ht.q4 hlt
                  dsimp only at c0 c1 c2 c3
                  have HT := Lib.hid (all_step hx HA.out)
                  clear hx
                  by_cases h30 : xs.size ≤ 30
                  · go_wp2
                    go_round
                    case rel => exact ⟨k + 1, by omega, by go_num, Lib.hid (HT.out.2 (decide_eq_true h30))⟩
                    case measure => simp [intOf]; omega
                  · go_wp2
                    go_ret
                    exact ⟨rfl, ret_bool (by rw [HB.out, HT.out.1 (decide_eq_false h30)]; rfl)⟩
                · have HTA : Hid (t.all szT = true) := Lib.hid (by
                    have := HA.out
                    rw [List.drop_eq_nil_of_le (by rw [HTL.out]; omega)] at this
                    rw [← this]
                    rfl)
                  clear HA
                  go_wp2
                  go_loop [6] (fun i => ∃ j : Nat, j ≤ n ∧ i = .int .i64 j ∧ Hid ((l.drop j).all szM = l.all szM)) (fun i => n - (intOf i).toNat)
                  case atStart => exact ⟨0, Nat.zero_le _, rfl, Lib.hid rfl⟩
                  case round =>
                    obtain ⟨j, hj, rfl, HA⟩ := hrel
                    by_cases hlt2 : j < n
                    · obtain ⟨b, o, ⟨xd, xk, xp, xn⟩, rfl, hb, hx, c0, c1, c2, c3⟩ := h.mv hlt2
                      dsimp only at c0 c1 c2 c3
                      have HT := Lib.hid (all_step hx HA.out)
                      clear hx
                      by_cases h30 : xp.size ≤ 30
                      · go_wp2
                        go_round
                        case rel => exact ⟨j + 1, by omega, by go_num, Lib.hid (HT.out.2 (decide_eq_true h30))⟩
                        case measure => simp [intOf]; omega
                      · go_wp2
                        go_ret
                        exact ⟨rfl, ret_bool (by rw [HB.out, HTA.out, HT.out.1 (decide_eq_false h30)]; rfl)⟩
                    · go_wp2
                      go_ret
                      refine ⟨rfl, ret_bool ?_⟩
                      have := HA.out
                      rw [List.drop_eq_nil_of_le (by rw [HLL.out]; omega)] at this
                      rw [HB.out, HTA.out, ← this]
                      rfl)
  · have q3 : ¬ 65 < tn := by omega
    by_cases q4 : 40 < n
    · by_cases q5 : n ≤ 300
      · (
            have HR : Hid (hB t l = false) := Lib.hid (by
              have : lenB t.length l.length = false := decide_eq_false (by rw [HTL.out, HLL.out]; omega)
              rw [hB, this]
              rfl)
            go_enter Try.func19, Try.ntmps19
            go_wp2
            go_ret
            exact ⟨rfl, ret_bool HR.out.symm⟩)
      · by_cases q6 : 305 < n
        · (
              have HR : Hid (hB t l = false) := Lib.hid (by
                have : lenB t.length l.length = false := decide_eq_false (by rw [HTL.out, HLL.out]; omega)
                rw [hB, this]
                rfl)
              go_enter Try.func19, Try.ntmps19
              go_wp2
              go_ret
              exact ⟨rfl, ret_bool HR.out.symm⟩)
        · (
              have HB : Hid (hB t l = (t.all szT && l.all szM)) := Lib.hid (by
                have : lenB t.length l.length = true := decide_eq_true (by rw [HTL.out, HLL.out]; omega)
                rw [hB, this]
                rfl)
              go_enter Try.func19, Try.ntmps19
              go_wp2
              go_loop [5] (fun i => ∃ k : Nat, k ≤ tn ∧ i = .int .i64 k ∧ Hid ((t.drop k).all szT = t.all szT)) (fun i => tn - (intOf i).toNat)
              case atStart => exact ⟨0, Nat.zero_le _, rfl, Lib.hid rfl⟩
              case round =>
                obtain ⟨k, hk, rfl, HA⟩ := hrel
                by_cases hlt : k < tn
                · obtain ⟨b, o, ⟨xs, xa, xb, xc⟩, rfl, hb, hx, c0, c1, c2, c3⟩ := ht.q4 hlt
                  dsimp only at c0 c1 c2 c3
                  have HT := Lib.hid (all_step hx HA.out)
                  clear hx
                  by_cases h30 : xs.size ≤ 30
                  · go_wp2
                    go_round
                    case rel => exact ⟨k + 1, by omega, by go_num, Lib.hid (HT.out.2 (decide_eq_true h30))⟩
                    case measure => simp [intOf]; omega
                  · go_wp2
                    go_ret
                    exact ⟨rfl, ret_bool (by rw [HB.out, HT.out.1 (decide_eq_false h30)]; rfl)⟩
                · have HTA : Hid (t.all szT = true) := Lib.hid (by
                    have := HA.out
                    rw [List.drop_eq_nil_of_le (by rw [HTL.out]; omega)] at this
                    rw [← this]
                    rfl)
                  clear HA
                  go_wp2
                  go_loop [6] (fun i => ∃ j : Nat, j ≤ n ∧ i = .int .i64 j ∧ Hid ((l.drop j).all szM = l.all szM)) (fun i => n - (intOf i).toNat)
                  case atStart => exact ⟨0, Nat.zero_le _, rfl, Lib.hid rfl⟩
                  case round =>
                    obtain ⟨j, hj, rfl, HA⟩ := hrel
                    by_cases hlt2 : j < n
                    · obtain ⟨b, o, ⟨xd, xk, xp, xn⟩, rfl, hb, hx, c0, c1, c2, c3⟩ := h.mv hlt2
                      dsimp only at c0 c1 c2 c3
                      have HT := Lib.hid (all_step hx HA.out)
                      clear hx
                      by_cases h30 : xp.size ≤ 30
                      · go_wp2
                        go_round
                        case rel => exact ⟨j + 1, by omega, by go_num, Lib.hid (HT.out.2 (decide_eq_true h30))⟩
                        case measure => simp [intOf]; omega
                      · go_wp2
                        go_ret
                        exact ⟨rfl, ret_bool (by rw [HB.out, HTA.out, HT.out.1 (decide_eq_false h30)]; rfl)⟩
                    · go_wp2
                      go_ret
                      refine ⟨rfl, ret_bool ?_⟩
                      have := HA.out
                      rw [List.drop_eq_nil_of_le (by rw [HLL.out]; omega)] at this
                      rw [HB.out, HTA.out, ← this]
                      rfl)
    · have q6 : ¬ 305 < n := by omega
      (
          have HB : Hid (hB t l = (t.all szT && l.all szM)) := Lib.hid (by
            have : lenB t.length l.length = true := decide_eq_true (by rw [HTL.out, HLL.out]; omega)
            rw [hB, this]
            rfl)
          go_enter Try.func19, Try.ntmps19
          go_wp2
          go_loop [5] (fun i => ∃ k : Nat, k ≤ tn ∧ i = .int .i64 k ∧ Hid ((t.drop k).all szT = t.all szT)) (fun i => tn - (intOf i).toNat)
          case atStart => exact ⟨0, Nat.zero_le _, rfl, Lib.hid rfl⟩
          case round =>
            obtain ⟨k, hk, rfl, HA⟩ := hrel
            by_cases hlt : k < tn
            · obtain ⟨b, o, ⟨xs, xa, xb, xc⟩, rfl, hb, hx, c0, c1, c2, c3⟩ := ht.q4 hlt
              dsimp only at c0 c1 c2 c3
              have HT := Lib.hid (all_step hx HA.out)
              clear hx
              by_cases h30 : xs.size ≤ 30
              · go_wp2
                go_round
                case rel => exact ⟨k + 1, by omega, by go_num, Lib.hid (HT.out.2 (decide_eq_true h30))⟩
                case measure => simp [intOf]; omega
              · go_wp2
                go_ret
                exact ⟨rfl, ret_bool (by rw [HB.out, HT.out.1 (decide_eq_false h30)]; rfl)⟩
            · have HTA : Hid (t.all szT = true) := Lib.hid (by
                have := HA.out
                rw [List.drop_eq_nil_of_le (by rw [HTL.out]; omega)] at this
                rw [← this]
                rfl)
              clear HA
              go_wp2
              go_loop [6] (fun i => ∃ j : Nat, j ≤ n ∧ i = .int .i64 j ∧ Hid ((l.drop j).all szM = l.all szM)) (fun i => n - (intOf i).toNat)
              case atStart => exact ⟨0, Nat.zero_le _, rfl, Lib.hid rfl⟩
              case round =>
                obtain ⟨j, hj, rfl, HA⟩ := hrel
                by_cases hlt2 : j < n
                · obtain ⟨b, o, ⟨xd, xk, xp, xn⟩, rfl, hb, hx, c0, c1, c2, c3⟩ := h.mv hlt2
                  dsimp only at c0 c1 c2 c3
                  have HT := Lib.hid (all_step hx HA.out)
                  clear hx
                  by_cases h30 : xp.size ≤ 30
                  · go_wp2
                    go_round
                    case rel => exact ⟨j + 1, by omega, by go_num, Lib.hid (HT.out.2 (decide_eq_true h30))⟩
                    case measure => simp [intOf]; omega
                  · go_wp2
                    go_ret
                    exact ⟨rfl, ret_bool (by rw [HB.out, HTA.out, HT.out.1 (decide_eq_false h30)]; rfl)⟩
                · go_wp2
                  go_ret
                  refine ⟨rfl, ret_bool ?_⟩
                  have := HA.out
                  rw [List.drop_eq_nil_of_le (by rw [HLL.out]; omega)] at this
                  rw [HB.out, HTA.out, ← this]
                  rfl)

end Go.Proofs.Ytbeijeblbchglaa
