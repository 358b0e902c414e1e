/- Chapter 9, walks: texts in rows: HasText, Texts. -/
import Derived.Test.YtgjjjnofdjhikaaPlat9
import Derived.Test.YtgjjjnofdjhikaaPlatMath9
namespace Go.Proofs.Ytgjjjnofdjhikaa
open Go.RowKit Go.WideShapes Go.Deep Go.Sort

def tx (t : Tx) : List Value := [encStr t]
theorem tx_wide (t : Tx) : (tx t).length = 1 := rfl
theorem tx_flat (l : List Tx) : l.flatMap tx = Ss l := by
  induction l with
  | nil => rfl
  | cons x l ih => rw [List.flatMap_cons, ih]; rfl
theorem tx_own {w : World} {base e n : Nat} {v : Value} {l : List Tx} (h : w.ownsRow base e 1 v n (Ss l)) (hl : l.length = n) : ∃ A c, v = .slice A n c ∧ Rws tx 1 w w.heap.size A n c l :=
  Rws.of_own (f := tx) (by rw [tx_flat]; exact h) hl
theorem Rws.tx {w : World} {B n c k : Nat} {A : Option Addr} {l : List Tx} (h : Rws tx 1 w B A n c l) (hk : k < n) : ∃ b o x, A = some ⟨b, o, none⟩ ∧ b < B ∧ l[k]? = some x ∧ w.cell? ⟨b, o + k, none⟩ = some (.string ⟨x.toArray⟩) := by
  obtain ⟨b, o, x, e, hb, hx, hc⟩ := h.at_ tx_wide hk
  refine ⟨b, o, x, e, hb, hx, ?_⟩
  have := hc 0 _ rfl
  rwa [Nat.mul_one, Nat.add_zero] at this
theorem tx_list (x : Tx) : (⟨x.toArray⟩ : ByteArray).toList = x := by rw [ByteArray.toList_eq]
theorem ba_list (p : ByteArray) : p.toList = p.data.toList := by rw [ByteArray.toList_eq]
theorem mem_step {l : List Tx} {k : Nat} {x p : Tx} (hx : l[k]? = some x) (h : p ∉ l.take k) (he : (x == p) = false) : p ∉ l.take (k + 1) := by
  rw [take_step hx, List.mem_append, List.mem_singleton]
  rintro (q | q)
  · exact h q
  · subst q; simp at he
set_option maxHeartbeats 1000000 in
theorem hasText_any (A : Option Addr) (n c B : Nat) (l : List Tx) (p : ByteArray) (w : World) (h : Rws tx 1 w B A n c l) :
    Calls Try.prog 23 #[.slice A n c, .string p] w fun e w' => w = w' ∧ e = .returned (.bool (decide (p.data.toList ∈ l))) := by
  have hcap := h.cap
  have hmax := h.max
  have HLEN := Lib.hid h.len
  obtain ⟨R, hR⟩ : ∃ R, decide (p.data.toList ∈ l) = R := ⟨_, rfl⟩
  have HR := Lib.hid hR
  rw [hR]
  clear hR
  go_enter Try.func23, Try.ntmps23
  go_wp2
  go_loop [5] (fun i => ∃ k : Nat, k ≤ n ∧ i = .int .i64 k ∧ Hid (p.data.toList ∉ l.take k)) (fun i => n - (intOf i).toNat)
  case atStart => exact ⟨0, Nat.zero_le _, rfl, Lib.hid (by simp)⟩
  case round =>
    obtain ⟨k, hk, rfl, HV⟩ := hrel
    by_cases hlt : k < n
    · obtain ⟨b, o, x, rfl, hb, hx, c0⟩ := h.tx hlt
      have HX := Lib.hid hx
      obtain ⟨xb, hxb⟩ : ∃ y : ByteArray, (⟨x.toArray⟩ : ByteArray) = y := ⟨_, rfl⟩
      rw [hxb] at c0
      obtain ⟨v, hv⟩ : ∃ v, (xb.toList == p.toList) = v := ⟨_, rfl⟩
      have HE : Hid ((x == p.data.toList) = v) := Lib.hid (by rw [← hv, ← hxb, tx_list, ba_list])
      have z1 : (0 : Int) ≤ (k : Int) := by omega
      have z2 : (k : Int) < (n : Int) := by omega
      clear hx hxb
      cases v
      · go_wp2
        go_round
        case rel => exact ⟨k + 1, by omega, by go_num, Lib.hid (mem_step HX.out HV.out HE.out)⟩
        case measure => simp [intOf]; omega
      · go_wp2
        go_ret
        refine ⟨rfl, ret_bool ?_⟩
        rw [← HR.out]
        have e : x = p.data.toList := by simpa using HE.out
        exact (decide_eq_true (e ▸ List.mem_of_getElem? HX.out)).symm
    · go_wp2
      go_ret
      refine ⟨rfl, ret_bool ?_⟩
      have := HV.out
      rw [List.take_of_length_le (by rw [HLEN.out]; omega)] at this
      rw [← HR.out]
      exact (decide_eq_false this).symm
set_option maxRecDepth 100000 in
set_option maxHeartbeats 2000000 in
theorem texts_eq (A A2 : Option Addr) (n c c2 : Nat) (l : List Tx) (w : World) (h : Rws tx 1 w w.heap.size A n c l) (h2 : Rws tx 1 w w.heap.size A2 n c2 l) :
    Calls Try.prog 16 #[.slice A n c, .slice A2 n c2] w fun e w' => Below w.heap.size w w' ∧ e = .returned (.bool true) := by
  have hcap := h.cap
  have hmax := h.max
  have hcap2 := h2.cap
  have hmax2 := h2.max
  have H : Hid (∀ w', Below w.heap.size w w' → Rws tx 1 w' w.heap.size A n c l) := fun w' hb => h.below hb (Nat.le_refl _) (Nat.le_refl _)
  have H2 : Hid (∀ w', Below w.heap.size w w' → Rws tx 1 w' w.heap.size A2 n c2 l) := fun w' hb => h2.below hb (Nat.le_refl _) (Nat.le_refl _)
  clear h h2
  go_enter Try.func16, Try.ntmps16
  go_wp2
  go_loopw [5] (fun i wr => ∃ k : Nat, k ≤ n ∧ i = .int .i64 k ∧ Below w.heap.size w wr) (fun i _ => n - (intOf i).toNat)
  case atStart => exact ⟨0, Nat.zero_le _, rfl, (by repeat (first | with_reducible exact Below.refl _ _ | with_reducible assumption | with_reducible refine Below.drew ?_ | with_reducible refine Below.drewN ?_ _ | with_reducible refine Below.alloc2 ?_ _ | with_reducible refine Below.alloc ?_ (by first | omega | (simp <;> omega)) _ | with_reducible refine Below.setCell ?_ (by first | omega | (simp <;> omega)) _ | with_reducible refine Below.step2 (by with_reducible assumption) ?_ | with_reducible refine Below.step (by with_reducible assumption) ?_ (by first | omega | (simp <;> omega))))⟩
  case round =>
    obtain ⟨k, hk, rfl, hb⟩ := hrel
    have HB := Lib.hid hb
    have ow := hb.size
    by_cases hlt : k < n
    · obtain ⟨b, o, x, rfl, hbb, hx, c0⟩ := (H.out _ hb).tx hlt
      obtain ⟨b2, o2, x2, rfl, hbb2, hx2, d0⟩ := (H2.out _ hb).tx hlt
      obtain rfl : x2 = x := by rw [hx] at hx2; exact (Option.some.inj hx2).symm
      obtain ⟨xb, hxb⟩ : ∃ y : ByteArray, (⟨x2.toArray⟩ : ByteArray) = y := ⟨_, rfl⟩
      rw [hxb] at c0 d0
      have z1 : (0 : Int) ≤ (k : Int) := by omega
      have z2 : (k : Int) < (n : Int) := by omega
      clear hx hx2 hb hxb
      go_wp2
      go_quiet (fail)
      go_wp2
      go_roundw
      case rel =>
        have hb0 := HB.out
        exact ⟨k + 1, by omega, by go_num, (by repeat (first | with_reducible exact Below.refl _ _ | with_reducible assumption | with_reducible refine Below.drew ?_ | with_reducible refine Below.drewN ?_ _ | with_reducible refine Below.alloc2 ?_ _ | with_reducible refine Below.alloc ?_ (by first | omega | (simp <;> omega)) _ | with_reducible refine Below.setCell ?_ (by first | omega | (simp <;> omega)) _ | with_reducible refine Below.step2 (by with_reducible assumption) ?_ | with_reducible refine Below.step (by with_reducible assumption) ?_ (by first | omega | (simp <;> omega))))⟩
      case measure => simp [intOf]; omega
    · go_wp2
      go_ret
      exact ⟨HB.out, rfl⟩

end Go.Proofs.Ytgjjjnofdjhikaa
