/- Walks of the reference: parts. -/
import Derived.Test.YtkcbfkflkepfeaaRefSys
import Derived.Test.YtkcbfkflkepfeaaParts
namespace Go.Proofs.Ytkcbfkflkepfeaa
open Go.RowKit

def rcells : List (Int × Int) → List Value
  | [] => []
  | p :: l => .int .i64 p.1 :: .int .i64 p.2 :: rcells l
theorem rcells_length (l : List (Int × Int)) : (rcells l).length = l.length * 2 := by
  induction l with
  | nil => rfl
  | cons p l ih => simp only [rcells, List.length_cons, ih]; omega
theorem rcells_append (l m : List (Int × Int)) : rcells (l ++ m) = rcells l ++ rcells m := by
  induction l with
  | nil => rfl
  | cons p l ih => simp [rcells, ih]
theorem rcells_get (l : List (Int × Int)) (k : Nat) (s : Int × Int) (h : l[k]? = some s) : (rcells l)[k * 2]? = some (.int .i64 s.1) ∧ (rcells l)[k * 2 + 1]? = some (.int .i64 s.2) := by
  induction l generalizing k with
  | nil => simp at h
  | cons p l ih =>
    match k with
    | 0 =>
      simp at h
      subst h
      simp [rcells]
    | k + 1 =>
      have := ih k (by simpa using h)
      rw [show (k + 1) * 2 = k * 2 + 1 + 1 from by omega]
      simpa [rcells] using this
structure RParts (w : World) (B : Nat) (A : Option Addr) (n c : Nat) (l : List (Int × Int)) : Prop where
  sl : Sl w B 2 A n c (rcells l)
section
variable {w w' : World} {B B' n c : Nat} {A : Option Addr} {l : List (Int × Int)}
theorem RParts.len (h : RParts w B A n c l) : l.length = n := by have := h.sl.len; rw [rcells_length] at this; omega
theorem RParts.cap (h : RParts w B A n c l) : n ≤ c := h.sl.cap
theorem RParts.max (h : RParts w B A n c l) : c ≤ 9223372036854775807 := h.sl.max
theorem RParts.below (h : RParts w B A n c l) {D : Nat} (hb : Below D w w') (hD : B ≤ D) (hB : B ≤ B') : RParts w' B' A n c l := ⟨h.sl.below hb hD hB⟩
theorem RParts.at_ (h : RParts w B A n c l) {k : Nat} (hk : k < n) : ∃ b o s, A = some ⟨b, o, none⟩ ∧ b < B ∧ l[k]? = some s ∧ w.cell? ⟨b, o + k * 2, none⟩ = some (.int .i64 s.1) ∧ w.cell? ⟨b, o + k * 2 + 1, none⟩ = some (.int .i64 s.2) := by
  obtain ⟨b, o, e, hb, hc⟩ := h.sl.cells (by omega)
  have hl : k < l.length := by have := h.len; omega
  obtain ⟨g0, g1⟩ := rcells_get l k l[k] (List.getElem?_eq_getElem hl)
  exact ⟨b, o, l[k], e, hb, List.getElem?_eq_getElem hl, hc _ _ g0, hc _ _ g1⟩
end
def two (p : Part) : Int × Int := (p.len, p.code)
theorem info_rpart : (Try.prog.info? 76).map (fun i => (i.zero, i.size, i.bytes)) = some (some (.agg #[.int .i64 0, .int .i64 0]), 2, 16) := by kernel_rfl
theorem rise_lt {l : List Int} (h : rise l = true) {i : Nat} : ∀ d, i + d + 1 < l.length → l.getD i 0 < l.getD (i + d + 1) 0
  | 0, hd => rise_iff.1 h i (by omega)
  | d + 1, hd => Int.lt_trans (rise_lt h d (by omega)) (rise_iff.1 h (i + d + 1) (by omega))
theorem reg_last {s : Sys} (h : s.Ok) {k : Nat} {x : Int} (hx : s.bays[k]? = some x) : x = s.reg ↔ k = s.bays.length - 1 := by
  have hk := (List.getElem?_eq_some_iff.1 hx).1
  rw [← getD_of hx]
  unfold Sys.reg
  constructor
  · intro e
    rcases Nat.lt_or_ge k (s.bays.length - 1) with hlt | hge
    · have := rise_lt h.riseA (i := k) (s.bays.length - 1 - k - 1) (by omega)
      rw [show k + (s.bays.length - 1 - k - 1) + 1 = s.bays.length - 1 by omega] at this
      omega
    · omega
  · intro e
    rw [e]

set_option maxRecDepth 100000 in
set_option maxHeartbeats 8000000 in
theorem refParts_any (A A2 : Option Addr) (n c n2 c2 : Nat) (s : Sys) (w : World) (h : SysAt w w.heap.size A n c A2 n2 c2 s) (hs : s.Ok) :
    Calls Try.prog 47 #[.agg #[.slice A n c, .slice A2 n2 c2, .int .i64 s.width, .int .i64 s.gap, .int .i64 s.lift]] w fun e w' => Below w.heap.size w w' ∧ ∃ RA rc, e = .returned (.slice RA (n + n2) rc) ∧ RParts w' w'.heap.size RA (n + n2) rc (s.parts.map two) ∧ (∀ a, RA = some a → w.heap.size ≤ a.block) := by
  have hcapA := h.a.nums.cap; have hmaxA := h.a.nums.max; have hcapB := h.b.nums.cap; have hmaxB := h.b.nums.max; have HLA := Lib.hid h.a.nums.len; have HLB := Lib.hid h.b.nums.len; have H : Hid (∀ w', Below w.heap.size w w' → SysAt w' w.heap.size A n c A2 n2 c2 s) := fun w' hb => h.below hb (Nat.le_refl _) (Nat.le_refl _); have HS : Hid (∀ w', Below w.heap.size w w' → SysAt w' w'.heap.size A n c A2 n2 c2 s) := fun w' hb => h.below hb (Nat.le_refl _) hb.size; clear h
  have HOK := Lib.hid hs
  have hnA : n ≤ 8 := by have := hs.bays; rw [HLA.out] at this; exact this
  have hnB : n2 ≤ 8 := by have := hs.boards; rw [HLB.out] at this; exact this
  have hn1 : 1 ≤ n := by have := hs.some_; rw [HLA.out] at this; exact this
  have hw1 : IntKind.i64.wrap ((n : Int) - 1) = (n : Int) - 1 := IntWalk.i64_in _ (by omega)
  obtain ⟨i0, hi0, hz0, hz1, hz2⟩ := info_parts info_rpart
  have HI0 := Lib.hid hi0
  have HZ0 := Lib.hid hz0
  have HZ1 := Lib.hid hz1
  have HZ2 := Lib.hid hz2
  clear hs hi0 hz0 hz1 hz2
  go_enter Try.func47, Try.ntmps47
  go_wp2
  go_loopw [3, 4] (fun v i wr => ∃ k : Nat, k ≤ n ∧ i = .int .i64 k ∧ wr.ownsRow (w.heap.size + 1) 76 2 v (k) (rcells (((s.bays.take k).map s.bay).map two)) ∧ Bk wr w.heap.size 24 #[.slice A n c, .slice A2 n2 c2, .int .i64 s.width, .int .i64 s.gap, .int .i64 s.lift] ∧ Below w.heap.size w wr) (fun _ i _ => n - (intOf i).toNat)
  case atStart => exact ⟨0, Nat.zero_le _, rfl, World.ownsRow_nil _ _ _ _, Bk.alloc_ w _ _, Below.alloc2 (Below.refl _ _) _⟩
  case round =>
    obtain ⟨k, hk, rfl, hown, hbk, hb⟩ := hrel
    have HB := Lib.hid hb
    have HOWN := Lib.hid hown
    have HBK := Lib.hid hbk
    obtain ⟨⟨a0, a1, a2, a3, a4⟩, -⟩ := hbk.five
    have ow := hb.size
    have og := hbk.lt
    by_cases hlt : k < n
    · obtain ⟨b, o, x, rfl, hbb, hx, d0⟩ := (H.out _ hb).a.nums.at_ hlt
      have HMT := Lib.hid (map_take (s.bay) hx)
      have ob : b < wr.heap.size := by omega
      have hrl := reg_last HOK.out hx
      rw [HLA.out] at hrl
      have HRL := Lib.hid hrl
      clear hx hb hown hbk hbb hrl
      by_cases hkn : k = n - 1
      · have hxr := HRL.out.2 hkn
        have HXR := Lib.hid hxr
        have hkb2 : ((k : Int) == (n : Int) - 1) = true := by simp; omega
        clear hxr hkn
        go_wp2_with (at_builtin; refine wpList_append_own_at _ rfl _ _ _ rfl (w.heap.size + 1) 76 i0 _ 2 16 Try.underlying73 HI0.out HZ0.out HZ1.out HZ2.out rfl (by omega) _ _ _ rfl (HOWN.out.alloc _) ⟨wr.heap.size, 0, none⟩ 1 1 [.int .i64 x, .int .i64 1] rfl rfl (World.news_of_block (cs := #[.int .i64 x, .int .i64 1]) (t := 76) (fr := (0, 0)) (heap_alloc_new wr _)) (by intro u hu; simp at hu; rcases hu with rfl | rfl <;> rfl) (by unfold maxLen; omega) (by omega) (by simp; omega) ?_; intro v1 w1 hown1 hg1 _ _; have HO1 := Lib.hid hown1; have HG1 := Lib.hid hg1; clear hown1 hg1)
        go_roundw
        case rel =>
          have hb := HB.out
          refine ⟨k + 1, by omega, by go_num, ?_, (HG1.out.block _ (by simp; omega) (fun e => by have := (HOWN.out.lt _ e.symm).1; omega)).trans (HBK.out.alloc _), (Below.alloc hb hb.size _).grown HG1.out (by simp; omega) (fun q hq => by have := (HOWN.out.lt _ hq).1; omega)⟩
          have := HO1.out
          rw [HMT.out, List.map_append, rcells_append]
          simpa [rcells, two, Sys.bay, Sys.brd, HXR.out] using this
        case measure => simp [intOf]; omega
      · have hxr : ¬ x = s.reg := fun e => hkn (HRL.out.1 e)
        have HXR := Lib.hid hxr
        have hkb2 : ((k : Int) == (n : Int) - 1) = false := by simp; omega
        clear hxr hkn
        go_wp2_with (at_builtin; refine wpList_append_own_at _ rfl _ _ _ rfl (w.heap.size + 1) 76 i0 _ 2 16 Try.underlying73 HI0.out HZ0.out HZ1.out HZ2.out rfl (by omega) _ _ _ rfl (HOWN.out.alloc _) ⟨wr.heap.size, 0, none⟩ 1 1 [.int .i64 x, .int .i64 10001] rfl rfl (World.news_of_block (cs := #[.int .i64 x, .int .i64 10001]) (t := 76) (fr := (0, 0)) (heap_alloc_new wr _)) (by intro u hu; simp at hu; rcases hu with rfl | rfl <;> rfl) (by unfold maxLen; omega) (by omega) (by simp; omega) ?_; intro v1 w1 hown1 hg1 _ _; have HO1 := Lib.hid hown1; have HG1 := Lib.hid hg1; clear hown1 hg1)
        go_roundw
        case rel =>
          have hb := HB.out
          refine ⟨k + 1, by omega, by go_num, ?_, (HG1.out.block _ (by simp; omega) (fun e => by have := (HOWN.out.lt _ e.symm).1; omega)).trans (HBK.out.alloc _), (Below.alloc hb hb.size _).grown HG1.out (by simp; omega) (fun q hq => by have := (HOWN.out.lt _ hq).1; omega)⟩
          have := HO1.out
          rw [HMT.out, List.map_append, rcells_append]
          simpa [rcells, two, Sys.bay, Sys.brd, HXR.out] using this
        case measure => simp [intOf]; omega
    · have e : n = k := by omega
      subst e
      have HOWI : Hid (wr.ownsRow (w.heap.size + 1) 76 2 u3 (n + 0) (rcells ((s.bays.map s.bay ++ (s.boards.take 0).map s.brd).map two))) := Lib.hid (by
        have := HOWN.out
        rw [List.take_of_length_le (by rw [HLA.out]; exact Nat.le_refl _)] at this
        simpa using this)
      have HBI := HB
      have HKI := HBK
      clear hown hbk hb HOWN HB HBK
      go_wp2
      go_loopw [3, 6] (fun v i wr => ∃ k : Nat, k ≤ n2 ∧ i = .int .i64 k ∧ wr.ownsRow (w.heap.size + 1) 76 2 v (n + k) (rcells ((s.bays.map s.bay ++ (s.boards.take k).map s.brd).map two)) ∧ Bk wr w.heap.size 24 #[.slice A n c, .slice A2 n2 c2, .int .i64 s.width, .int .i64 s.gap, .int .i64 s.lift] ∧ Below w.heap.size w wr) (fun _ i _ => n2 - (intOf i).toNat)
      case atStart => exact ⟨0, Nat.zero_le _, rfl, HOWI.out, HKI.out, HBI.out⟩
      case round =>
        obtain ⟨k, hk, rfl, hown, hbk, hb⟩ := hrel
        have HB := Lib.hid hb
        have HOWN := Lib.hid hown
        have HBK := Lib.hid hbk
        obtain ⟨⟨a0, a1, a2, a3, a4⟩, -⟩ := hbk.five
        have ow := hb.size
        have og := hbk.lt
        by_cases hlt : k < n2
        · obtain ⟨b, o, x, rfl, hbb, hx, d0⟩ := (H.out _ hb).b.nums.at_ hlt
          have HMT := Lib.hid (map_take (s.brd) hx)
          have ob : b < wr.heap.size := by omega
          clear hx hb hown hbk hbb
          go_wp2_with (at_builtin; refine wpList_append_own_at _ rfl _ _ _ rfl (w.heap.size + 1) 76 i0 _ 2 16 Try.underlying73 HI0.out HZ0.out HZ1.out HZ2.out rfl (by omega) _ _ _ rfl (HOWN.out.alloc _) ⟨wr.heap.size, 0, none⟩ 1 1 [.int .i64 x, .int .i64 10000] rfl rfl (World.news_of_block (cs := #[.int .i64 x, .int .i64 10000]) (t := 76) (fr := (0, 0)) (heap_alloc_new wr _)) (by intro u hu; simp at hu; rcases hu with rfl | rfl <;> rfl) (by unfold maxLen; omega) (by omega) (by simp; omega) ?_; intro v1 w1 hown1 hg1 _ _; have HO1 := Lib.hid hown1; have HG1 := Lib.hid hg1; clear hown1 hg1)
          go_roundw
          case rel =>
            have hb := HB.out
            refine ⟨k + 1, by omega, by go_num, ?_, (HG1.out.block _ (by simp; omega) (fun e => by have := (HOWN.out.lt _ e.symm).1; omega)).trans (HBK.out.alloc _), (Below.alloc hb hb.size _).grown HG1.out (by simp; omega) (fun q hq => by have := (HOWN.out.lt _ hq).1; omega)⟩
            have := HO1.out
            rw [HMT.out, show n + (k + 1) = n + k + 1 from rfl, ← List.append_assoc, List.map_append, rcells_append]
            simpa [rcells, two, Sys.bay, Sys.brd] using this
          case measure => simp [intOf]; omega
        · have e : n2 = k := by omega
          subst e
          rw [List.take_of_length_le (by rw [HLB.out]; exact Nat.le_refl _)] at hown
          obtain ⟨RA, rc, rfl, hsl, -⟩ := Sl.of_own hown
          have HSL := Lib.hid hsl
          have hfr : ∀ a, RA = some a → w.heap.size ≤ a.block := fun a e => by
            subst e
            have := (hown.lt a.block rfl).1
            omega
          have HFR := Lib.hid hfr
          clear hown hbk hb hsl hfr
          go_wp2
          go_ret
          exact ⟨HB.out, RA, rc, rfl, ⟨HSL.out⟩, HFR.out⟩

end Go.Proofs.Ytkcbfkflkepfeaa
