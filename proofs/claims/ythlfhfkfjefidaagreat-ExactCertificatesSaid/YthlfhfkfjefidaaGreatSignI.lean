/- The walks of at and Sign of the reference. -/
import Derived.Test.YthlfhfkfjefidaaGreatRefA
import Derived.Test.YthlfhfkfjefidaaGreatIntG
namespace Go.Proofs.YthlfhfkfjefidaaGreat
open Go.RowKit
set_option maxHeartbeats 2000000 in
theorem at_any (A : Option Addr) (n c i B : Nat) (l : List Int) (w : World) (hl : Nums w B A n c l) :
 Calls Tryz.prog 63 #[.slice A n c, .int .i64 (i : Int)] w fun e w' => w = w' ∧ e = .returned (.int .i64 (l.getD i 0)) := by
 have hcap := hl.cap
 have hmax := hl.max
 by_cases h : i < n
 · obtain ⟨b, o, x, rfl, hbb, hx, c0⟩ := hl.at_ h
   have e1 : l.getD i 0 = x := by rw [List.getD_eq_getElem?_getD, hx]; rfl
   rw [e1]
   clear hl hx e1
   go_enter Tryz.func63, Tryz.ntmps63
   go_wp2
   go_ret
   exact ⟨rfl, rfl⟩
 · have e1 : l.getD i 0 = 0 := by rw [List.getD_eq_getElem?_getD, List.getElem?_eq_none (by have := hl.len; omega)]; rfl
   rw [e1]
   clear hl e1
   go_enter Tryz.func63, Tryz.ntmps63
   go_wp2
   go_ret
   exact ⟨rfl, rfl⟩
theorem val_pos_at : ∀ {l : List Nat} {k x : Nat}, l[k]? = some x → 0 < x → 0 < val l
 | [], _, _, h, _ => by simp at h
 | y :: r, 0, x, h, hx => by simp at h; subst h; simp only [val]; omega
 | y :: r, k + 1, x, h, hx => by
   simp only [List.getElem?_cons_succ] at h
   have := val_pos_at h hx
   simp only [val]; omega
set_option maxRecDepth 100000 in
set_option maxHeartbeats 4000000 in
theorem sign_false (A : Option Addr) (n c : Nat) (l : List Nat) (w : World) (hl : Lim w w.heap.size A n c l) :
 Calls Tryz.prog 69 #[.agg #[.bool false, .slice A n c]] w fun e w' => Below w.heap.size w w' ∧ e = .returned (.int .i64 (cmpI (sg false (val l)) 0)) := by
 have hcap := hl.cap
 have hmax := hl.max
 have HLEN := Lib.hid hl.len
 have H : Hid (∀ w', Below w.heap.size w w' → Lim w' w.heap.size A n c l) := fun w' hb => hl.below hb (Nat.le_refl _) (Nat.le_refl _)
 clear hl
 go_enter Tryz.func69, Tryz.ntmps69
 go_wp2
 go_loopw [3] (fun x wr => ∃ k : Nat, k ≤ n ∧ x = .int .i64 k ∧ Hid (val (l.take k) = 0) ∧ Bk wr w.heap.size 24 #[.bool false, .slice A n c] ∧ Below w.heap.size w wr) (fun x _ => n - (intOf x).toNat)
 case atStart => exact ⟨0, Nat.zero_le _, rfl, Lib.hid rfl, Bk.alloc_ _ _ _, (by repeat (first | exact Below.refl _ _ | assumption | refine Below.drew ?_ | refine Below.drewN ?_ _ | refine Below.alloc ?_ (by simp <;> omega) _ | refine Below.setCell ?_ (by simp <;> omega) _))⟩
 case round =>
  obtain ⟨k, hk, rfl, HZ, hbk, hb⟩ := hrel
  have HBR := Lib.hid hb
  have HBK := Lib.hid hbk
  have ow := hb.size
  have og := hbk.lt
  have a0 : wr.cell? ⟨w.heap.size, 1, none⟩ = some (.slice A n c) := by simpa using hbk.cell 1
  have a1 : wr.cell? ⟨w.heap.size, 0, none⟩ = some (.bool false) := by simpa using hbk.cell 0
  clear hbk
  by_cases hlt : k < n
  · obtain ⟨b, o, x, rfl, hbb, hx, hxb, c0⟩ := (H.out _ hb).at_ hlt
    have HX := Lib.hid hx
    clear hx hb
    by_cases hx0 : x = 0
    · subst hx0
      go_wp2
      go_roundw
      case rel =>
       refine ⟨k + 1, by omega, by go_num, Lib.hid ?_, HBK.out, HBR.out⟩
       rw [val_take_get l HX.out, HZ.out]; rfl
      case measure => (simp [intOf]; omega)
    · have hxi : ¬ (x : Int) = 0 := by omega
      have hp := val_pos_at HX.out (by omega)
      have HC : Hid (cmpI (sg false (val l)) 0 = 1) := Lib.hid (cmpI_gt (by simp [sg]; omega))
      clear hp
      go_wp2
      go_ret
      exact ⟨HBR.out, by rw [HC.out]; rfl⟩
  · obtain rfl : k = n := by omega
    have HC : Hid (cmpI (sg false (val l)) 0 = 0) := Lib.hid (by
     have h1 := HZ.out
     rw [List.take_of_length_le (by rw [HLEN.out]; exact Nat.le_refl _)] at h1
     rw [h1]
     exact cmpI_eq (by simp [sg]))
    clear hb
    go_wp2
    go_ret
    exact ⟨HBR.out, by rw [HC.out]; rfl⟩
set_option maxRecDepth 100000 in
set_option maxHeartbeats 4000000 in
theorem sign_true (A : Option Addr) (n c : Nat) (l : List Nat) (w : World) (hl : Lim w w.heap.size A n c l) :
 Calls Tryz.prog 69 #[.agg #[.bool true, .slice A n c]] w fun e w' => Below w.heap.size w w' ∧ e = .returned (.int .i64 (cmpI (sg true (val l)) 0)) := by
 have hcap := hl.cap
 have hmax := hl.max
 have HLEN := Lib.hid hl.len
 have H : Hid (∀ w', Below w.heap.size w w' → Lim w' w.heap.size A n c l) := fun w' hb => hl.below hb (Nat.le_refl _) (Nat.le_refl _)
 clear hl
 go_enter Tryz.func69, Tryz.ntmps69
 go_wp2
 go_loopw [3] (fun x wr => ∃ k : Nat, k ≤ n ∧ x = .int .i64 k ∧ Hid (val (l.take k) = 0) ∧ Bk wr w.heap.size 24 #[.bool true, .slice A n c] ∧ Below w.heap.size w wr) (fun x _ => n - (intOf x).toNat)
 case atStart => exact ⟨0, Nat.zero_le _, rfl, Lib.hid rfl, Bk.alloc_ _ _ _, (by repeat (first | exact Below.refl _ _ | assumption | refine Below.drew ?_ | refine Below.drewN ?_ _ | refine Below.alloc ?_ (by simp <;> omega) _ | refine Below.setCell ?_ (by simp <;> omega) _))⟩
 case round =>
  obtain ⟨k, hk, rfl, HZ, hbk, hb⟩ := hrel
  have HBR := Lib.hid hb
  have HBK := Lib.hid hbk
  have ow := hb.size
  have og := hbk.lt
  have a0 : wr.cell? ⟨w.heap.size, 1, none⟩ = some (.slice A n c) := by simpa using hbk.cell 1
  have a1 : wr.cell? ⟨w.heap.size, 0, none⟩ = some (.bool true) := by simpa using hbk.cell 0
  clear hbk
  by_cases hlt : k < n
  · obtain ⟨b, o, x, rfl, hbb, hx, hxb, c0⟩ := (H.out _ hb).at_ hlt
    have HX := Lib.hid hx
    clear hx hb
    by_cases hx0 : x = 0
    · subst hx0
      go_wp2
      go_roundw
      case rel =>
       refine ⟨k + 1, by omega, by go_num, Lib.hid ?_, HBK.out, HBR.out⟩
       rw [val_take_get l HX.out, HZ.out]; rfl
      case measure => (simp [intOf]; omega)
    · have hxi : ¬ (x : Int) = 0 := by omega
      have hp := val_pos_at HX.out (by omega)
      have HC : Hid (cmpI (sg true (val l)) 0 = -1) := Lib.hid (cmpI_lt (by simp [sg]; omega))
      clear hp
      go_wp2
      go_ret
      exact ⟨HBR.out, by rw [HC.out]; rfl⟩
  · obtain rfl : k = n := by omega
    have HC : Hid (cmpI (sg true (val l)) 0 = 0) := Lib.hid (by
     have h1 := HZ.out
     rw [List.take_of_length_le (by rw [HLEN.out]; exact Nat.le_refl _)] at h1
     rw [h1]
     exact cmpI_eq (by simp [sg]))
    clear hb
    go_wp2
    go_ret
    exact ⟨HBR.out, by rw [HC.out]; rfl⟩
end Go.Proofs.YthlfhfkfjefidaaGreat
