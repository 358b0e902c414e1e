/- Several texts in one. -/
import Derived.Test.YthlfhfkfjefidaaGreatBas1
import Derived.Laws.AppendOwn
import Derived.OwnWalk
import Derived.Laws.BitsAllLaws
/- The walk of addLimbs: the sum of two numbers, in new memory. -/
namespace Go.Proofs.YthlfhfkfjefidaaGreat
open Go.RowKit
theorem add32_h (x y c : Nat) (w : World) (hx : x < 4294967296) (hy : y < 4294967296) (hc : c ≤ 1) :
 Calls Tryz.prog 101 #[.int .u32 (x : Int), .int .u32 (y : Int), .int .u32 (c : Int)] w fun e w' => w = w' ∧
  ∃ s r : Nat, e = .returned (.tuple #[.int .u32 (s : Int), .int .u32 (r : Int)]) ∧ s < 4294967296 ∧ r ≤ 1 ∧ Hid (s + 4294967296 * r = x + y + c) := add32_any x y c w hx hy hc
theorem info_u32 : (Tryz.prog.info? 81).map (fun i => (i.zero, i.size, i.bytes)) = some (some (.int .u32 0), 1, 4) := by kernel_rfl
set_option maxHeartbeats 1000000 in
theorem addLimbs_ge (A A2 : Option Addr) (n c m d : Nat) (a b : List Nat) (w : World) (ha : Lim w w.heap.size A n c a) (hb : Lim w w.heap.size A2 m d b) (hnm : m ≤ n) (hn : n ≤ 1073741824) :
 Calls Tryz.prog 60 #[.slice A n c, .slice A2 m d] w (NatR (val a + val b) w) := by
 have hcap := ha.cap
 have hcap2 := hb.cap
 have hla := Lib.hid ha.len
 have hlb := Lib.hid hb.len
 have hd : decide (n < m) = false := by simpa using hnm
 obtain ⟨i0, hi0, hz0, hz1, hz2⟩ := info_parts info_u32
 have hmk := fun W => make_u32 (P := Tryz.prog) Tryz.underlying22 hi0 hz0 hz1 hz2 (n + 1) ((n : Int) + 1) (by omega) (by omega) W
 have hba := Lib.hid ha.bd
 have hbb := Lib.hid hb.bd
 clear hi0 hz0 hz1 hz2
 go_enter Tryz.func60, Tryz.ntmps60
 go_wp2
 go_loopw [6, 23] (fun cv iv wr => ∃ (k r : Nat) (O : List Nat), k ≤ m ∧ iv = .int .i64 (k : Int) ∧ cv = .int .u32 (r : Int) ∧ r ≤ 1 ∧ Buf wr w.heap.size 81 O ∧ Hid (O.length = n + 1) ∧ Hid (val (O.take k) + W k * r = val (a.take k) + val (b.take k)) ∧ Below w.heap.size w wr)
  (fun _ iv _ => m - (intOf iv).toNat)
 case atStart =>
  exact ⟨0, 0, List.replicate (n + 1) 0, by omega, rfl, rfl, by omega, ⟨Bk.alloc_ _ _ _, Bd.replicate _⟩, by simp [Hid], by simp [Hid, val], (Below.refl _ _).alloc (Nat.le_refl _) _⟩
 case round =>
  obtain ⟨k, r, O, hk, rfl, rfl, hr, hO, hOl, hval, hB⟩ := hrel
  by_cases hlt : k < m
  · obtain ⟨b1, o1, x, rfl, hb1, hx, hxb, hc1⟩ := (ha.below hB (Nat.le_refl _) (Nat.le_refl _)).at_ (k := k) (by omega)
    obtain ⟨b2, o2, y, rfl, hb2, hy, hyb, hc2⟩ := (hb.below hB (Nat.le_refl _) (Nat.le_refl _)).at_ (k := k) hlt
    obtain ⟨z, hz, hc3⟩ := hO.cell (k := k) (by rw [hOl.out]; omega)
    have hf3 := hO.frozen k
    have HX := Lib.hid hx
    have HY := Lib.hid hy
    clear hx hy hz
    go_wp2_with (go_at_call 101; refine (add32_h _ _ _ _ hxb hyb hr).mono ?_; rintro e w' ⟨rfl, s, r', rfl, hs, hr', hsum⟩)
    go_roundw
    case rel =>
     exact ⟨k + 1, r', O.set k s, by omega, by go_num, rfl, hr', hO.set_ k s hs, by show (O.set k s).length = n + 1; rw [List.length_set]; exact hOl.out,
      by show val ((O.set k s).take (k + 1)) + _ = val (a.take (k + 1)) + val (b.take (k + 1)); rw [val_set_take O s (by rw [hOl.out]; omega), val_take_get a HX.out, val_take_get b HY.out]; exact add_col hval.out hsum.out, hB.setCell (by simp) _⟩
    case measure => simp [intOf]; omega
  · obtain rfl : k = m := by omega
    have hvb : Hid (val (b.take k) = val b) := val_take_all hlb.out
    go_wp2
    go_loopw [6, 9] (fun cv iv wr => ∃ (j r : Nat) (O : List Nat), k ≤ j ∧ j ≤ n ∧ iv = .int .i64 (j : Int) ∧ cv = .int .u32 (r : Int) ∧ r ≤ 1 ∧ Buf wr w.heap.size 81 O ∧ Hid (O.length = n + 1) ∧ Hid (val (O.take j) + W j * r = val (a.take j) + val b) ∧ Below w.heap.size w wr)
     (fun _ iv _ => n - (intOf iv).toNat)
    case atStart =>
     exact ⟨k, r, O, Nat.le_refl _, hnm, rfl, rfl, hr, hO, hOl, by rw [← hvb.out]; exact hval, hB⟩
    case round =>
     clear hval hO hB hr hOl
     obtain ⟨j, r, O, hkj, hj, rfl, rfl, hr, hO, hOl, hval, hB⟩ := hrel
     by_cases hlt : j < n
     · obtain ⟨b1, o1, x, rfl, hb1, hx, hxb, hc1⟩ := (ha.below hB (Nat.le_refl _) (Nat.le_refl _)).at_ (k := j) hlt
       obtain ⟨z, hz, hc3⟩ := hO.cell (k := j) (by rw [hOl.out]; omega)
       have hf3 := hO.frozen j
       have HX := Lib.hid hx
       clear hx hz
       go_wp2_with (go_at_call 101; refine (add32_h _ 0 _ _ hxb (by omega) hr).mono ?_; rintro e w' ⟨rfl, s, r', rfl, hs, hr', hsum⟩)
       go_roundw
       case rel =>
        refine ⟨j + 1, r', O.set j s, by omega, by omega, by go_num, rfl, hr', hO.set_ j s hs, ?_, ?_, hB.setCell (by simp) _⟩
        · show (O.set j s).length = n + 1
          rw [List.length_set]; exact hOl.out
        · show val ((O.set j s).take (j + 1)) + _ = val (a.take (j + 1)) + val b
          rw [val_set_take O s (by rw [hOl.out]; omega), val_take_get a HX.out]
          have := add_col (y := 0) hval.out hsum.out
          omega
       case measure => simp [intOf]; omega
     · obtain rfl : j = n := by omega
       obtain ⟨z, hz, hc3⟩ := hO.cell (k := j) (by rw [hOl.out]; omega)
       have hf3 := hO.frozen j
       have hO2 := hO.set_ j r (by omega)
       have hB2 := hB.setCell (p := ⟨w.heap.size, j, none⟩) (Nat.le_refl _) (.int .u32 (r : Int))
       have hlim : Lim (wr.setCell ⟨w.heap.size, j, none⟩ (.int .u32 (r : Int))) wr.heap.size (some ⟨w.heap.size, 0, none⟩) (j + 1) (j + 1) ((O.set j r).take (j + 1)) :=
        hO2.lim hO.lt (by omega) (by omega) (by rw [List.length_set, hOl.out]; omega)
       have HL := Lib.hid hlim
       have HV : Hid (val ((O.set j r).take (j + 1)) = val a + val b) := by
        show _ = _
        rw [val_set_take O r (by rw [hOl.out]; omega), hval.out, val_take_all hla.out]
       clear hz hO2 hlim hval
       go_wp2_with (go_at_call 97; refine (trim_any _ _ _ _ _ _ HL.out).mono ?_; rintro e w' ⟨rfl, q, rfl, hq, hv, hn2⟩)
       go_ret
       exact ⟨hB2, _, q, _, _, rfl, (HL.out.take hq).mono (by simp), hn2, hv.trans HV.out⟩
set_option maxHeartbeats 1000000 in
theorem addLimbs_lt (A A2 : Option Addr) (n c m d : Nat) (a b : List Nat) (w : World) (ha : Lim w w.heap.size A n c a) (hb : Lim w w.heap.size A2 m d b) (hnm : m ≤ n) (hlt0 : m < n) (hn : n ≤ 1073741824) :
 Calls Tryz.prog 60 #[.slice A2 m d, .slice A n c] w (NatR (val a + val b) w) := by
 have hcap := ha.cap
 have hcap2 := hb.cap
 have hla := Lib.hid ha.len
 have hlb := Lib.hid hb.len
 have hd : decide (m < n) = true := by simpa using hlt0
 obtain ⟨i0, hi0, hz0, hz1, hz2⟩ := info_parts info_u32
 have hmk := fun W => make_u32 (P := Tryz.prog) Tryz.underlying22 hi0 hz0 hz1 hz2 (n + 1) ((n : Int) + 1) (by omega) (by omega) W
 have hba := Lib.hid ha.bd
 have hbb := Lib.hid hb.bd
 clear hi0 hz0 hz1 hz2
 go_enter Tryz.func60, Tryz.ntmps60
 go_wp2
 go_loopw [6, 23] (fun cv iv wr => ∃ (k r : Nat) (O : List Nat), k ≤ m ∧ iv = .int .i64 (k : Int) ∧ cv = .int .u32 (r : Int) ∧ r ≤ 1 ∧ Buf wr w.heap.size 81 O ∧ Hid (O.length = n + 1) ∧ Hid (val (O.take k) + W k * r = val (a.take k) + val (b.take k)) ∧ Below w.heap.size w wr)
  (fun _ iv _ => m - (intOf iv).toNat)
 case atStart =>
  exact ⟨0, 0, List.replicate (n + 1) 0, by omega, rfl, rfl, by omega, ⟨Bk.alloc_ _ _ _, Bd.replicate _⟩, by simp [Hid], by simp [Hid, val], (Below.refl _ _).alloc (Nat.le_refl _) _⟩
 case round =>
  obtain ⟨k, r, O, hk, rfl, rfl, hr, hO, hOl, hval, hB⟩ := hrel
  by_cases hlt : k < m
  · obtain ⟨b1, o1, x, rfl, hb1, hx, hxb, hc1⟩ := (ha.below hB (Nat.le_refl _) (Nat.le_refl _)).at_ (k := k) (by omega)
    obtain ⟨b2, o2, y, rfl, hb2, hy, hyb, hc2⟩ := (hb.below hB (Nat.le_refl _) (Nat.le_refl _)).at_ (k := k) hlt
    obtain ⟨z, hz, hc3⟩ := hO.cell (k := k) (by rw [hOl.out]; omega)
    have hf3 := hO.frozen k
    have HX := Lib.hid hx
    have HY := Lib.hid hy
    clear hx hy hz
    go_wp2_with (go_at_call 101; refine (add32_h _ _ _ _ hxb hyb hr).mono ?_; rintro e w' ⟨rfl, s, r', rfl, hs, hr', hsum⟩)
    go_roundw
    case rel =>
     exact ⟨k + 1, r', O.set k s, by omega, by go_num, rfl, hr', hO.set_ k s hs, by show (O.set k s).length = n + 1; rw [List.length_set]; exact hOl.out,
      by show val ((O.set k s).take (k + 1)) + _ = val (a.take (k + 1)) + val (b.take (k + 1)); rw [val_set_take O s (by rw [hOl.out]; omega), val_take_get a HX.out, val_take_get b HY.out]; exact add_col hval.out hsum.out, hB.setCell (by simp) _⟩
    case measure => simp [intOf]; omega
  · obtain rfl : k = m := by omega
    have hvb : Hid (val (b.take k) = val b) := val_take_all hlb.out
    go_wp2
    go_loopw [6, 9] (fun cv iv wr => ∃ (j r : Nat) (O : List Nat), k ≤ j ∧ j ≤ n ∧ iv = .int .i64 (j : Int) ∧ cv = .int .u32 (r : Int) ∧ r ≤ 1 ∧ Buf wr w.heap.size 81 O ∧ Hid (O.length = n + 1) ∧ Hid (val (O.take j) + W j * r = val (a.take j) + val b) ∧ Below w.heap.size w wr)
     (fun _ iv _ => n - (intOf iv).toNat)
    case atStart =>
     exact ⟨k, r, O, Nat.le_refl _, hnm, rfl, rfl, hr, hO, hOl, by rw [← hvb.out]; exact hval, hB⟩
    case round =>
     clear hval hO hB hr hOl
     obtain ⟨j, r, O, hkj, hj, rfl, rfl, hr, hO, hOl, hval, hB⟩ := hrel
     by_cases hlt : j < n
     · obtain ⟨b1, o1, x, rfl, hb1, hx, hxb, hc1⟩ := (ha.below hB (Nat.le_refl _) (Nat.le_refl _)).at_ (k := j) hlt
       obtain ⟨z, hz, hc3⟩ := hO.cell (k := j) (by rw [hOl.out]; omega)
       have hf3 := hO.frozen j
       have HX := Lib.hid hx
       clear hx hz
       go_wp2_with (go_at_call 101; refine (add32_h _ 0 _ _ hxb (by omega) hr).mono ?_; rintro e w' ⟨rfl, s, r', rfl, hs, hr', hsum⟩)
       go_roundw
       case rel =>
        refine ⟨j + 1, r', O.set j s, by omega, by omega, by go_num, rfl, hr', hO.set_ j s hs, ?_, ?_, hB.setCell (by simp) _⟩
        · show (O.set j s).length = n + 1
          rw [List.length_set]; exact hOl.out
        · show val ((O.set j s).take (j + 1)) + _ = val (a.take (j + 1)) + val b
          rw [val_set_take O s (by rw [hOl.out]; omega), val_take_get a HX.out]
          have := add_col (y := 0) hval.out hsum.out
          omega
       case measure => simp [intOf]; omega
     · obtain rfl : j = n := by omega
       obtain ⟨z, hz, hc3⟩ := hO.cell (k := j) (by rw [hOl.out]; omega)
       have hf3 := hO.frozen j
       have hO2 := hO.set_ j r (by omega)
       have hB2 := hB.setCell (p := ⟨w.heap.size, j, none⟩) (Nat.le_refl _) (.int .u32 (r : Int))
       have hlim : Lim (wr.setCell ⟨w.heap.size, j, none⟩ (.int .u32 (r : Int))) wr.heap.size (some ⟨w.heap.size, 0, none⟩) (j + 1) (j + 1) ((O.set j r).take (j + 1)) :=
        hO2.lim hO.lt (by omega) (by omega) (by rw [List.length_set, hOl.out]; omega)
       have HL := Lib.hid hlim
       have HV : Hid (val ((O.set j r).take (j + 1)) = val a + val b) := by
        show _ = _
        rw [val_set_take O r (by rw [hOl.out]; omega), hval.out, val_take_all hla.out]
       clear hz hO2 hlim hval
       go_wp2_with (go_at_call 97; refine (trim_any _ _ _ _ _ _ HL.out).mono ?_; rintro e w' ⟨rfl, q, rfl, hq, hv, hn2⟩)
       go_ret
       exact ⟨hB2, _, q, _, _, rfl, (HL.out.take hq).mono (by simp), hn2, hv.trans HV.out⟩
theorem addLimbs_any (A A2 : Option Addr) (n c m d : Nat) (a b : List Nat) (w : World) (ha : Lim w w.heap.size A n c a) (hb : Lim w w.heap.size A2 m d b) (hn : n ≤ 1073741824) (hm : m ≤ 1073741824) :
 Calls Tryz.prog 60 #[.slice A n c, .slice A2 m d] w (NatR (val a + val b) w) := by
 rcases Nat.lt_or_ge n m with h | h
 · have := addLimbs_lt A2 A m d n c b a w hb ha (by omega) h hm
   rwa [Nat.add_comm (val b)] at this
 · exact addLimbs_ge A A2 n c m d a b w ha hb h hn
end Go.Proofs.YthlfhfkfjefidaaGreat
/- A slice of limbs that the call owns: nil, or the head of a block that is known whole; append onto it. No program is named here. -/
namespace Go.Proofs.YthlfhfkfjefidaaGreat
open Go.RowKit
def OwnL (w : World) (base : Nat) (t : TypeId) (v : Value) (l : List Nat) : Prop :=
 (v = .slice none 0 0 ∧ l = []) ∨ ∃ g n c O, v = .slice (some ⟨g, 0, none⟩) n c ∧ base ≤ g ∧ Buf w g t O ∧ O.length = c ∧ n ≤ c ∧ c ≤ 9223372036854775807 ∧ l = O.take n
section
variable {w w' : World} {base base' : Nat} {t : TypeId} {v : Value} {l : List Nat}
theorem OwnL.nil_ (w : World) (base : Nat) (t : TypeId) : OwnL w base t (.slice none 0 0) [] := .inl ⟨rfl, rfl⟩
theorem OwnL.form (h : OwnL w base t v l) : ∃ A c, v = .slice A l.length c := by
 rcases h with ⟨rfl, rfl⟩ | ⟨g, n, c, O, rfl, _, _, hO, hn, _, rfl⟩
 · exact ⟨_, _, rfl⟩
 · exact ⟨_, c, by rw [List.length_take, hO, Nat.min_eq_left hn]⟩
theorem OwnL.lim (h : OwnL w base t v l) {B : Nat} (hB : w.heap.size ≤ B) : ∃ A c, v = .slice A l.length c ∧ Lim w B A l.length c l := by
 rcases h with ⟨rfl, rfl⟩ | ⟨g, n, c, O, rfl, _, hb, hO, hn, hc, rfl⟩
 · exact ⟨_, _, rfl, Lim.nil_ _ _⟩
 · have e : (O.take n).length = n := by rw [List.length_take, hO, Nat.min_eq_left hn]
   refine ⟨_, c, by rw [e], ?_⟩
   rw [e]
   exact hb.lim (Nat.lt_of_lt_of_le hb.lt hB) hn hc (by omega)
theorem OwnL.bd (h : OwnL w base t v l) : Bd l := by
 rcases h with ⟨rfl, rfl⟩ | ⟨g, n, c, O, rfl, _, hb, hO, hn, hc, rfl⟩
 · exact Bd.nil
 · exact hb.bd.take n
theorem OwnL.block (h : OwnL w base t v l) : ∀ k, v.ownBlock = some k → base ≤ k ∧ k < w.heap.size := by
 intro k hk
 rcases h with ⟨rfl, rfl⟩ | ⟨g, n, c, O, rfl, hbg, hb, hO, hn, hc, rfl⟩
 · simp [Value.ownBlock] at hk
 · simp [Value.ownBlock] at hk
   subst hk
   exact ⟨hbg, hb.lt⟩
theorem OwnL.keep (h : OwnL w base t v l) (hk : ∀ k, v.ownBlock = some k → w'.heap[k]? = w.heap[k]?) : OwnL w' base t v l := by
 rcases h with ⟨rfl, rfl⟩ | ⟨g, n, c, O, rfl, hbg, hb, hO, hn, hc, rfl⟩
 · exact OwnL.nil_ _ _ _
 · exact .inr ⟨g, n, c, O, rfl, hbg, ⟨(hk g (by simp [Value.ownBlock])).trans hb.bk, hb.bd⟩, hO, hn, hc, rfl⟩
theorem OwnL.cut {n c : Nat} {A : Option Addr} (h : OwnL w base t (.slice A n c) l) {m : Nat} (hm : m ≤ n) : OwnL w base t (.slice A m c) (l.take m) := by
 rcases h with ⟨h, rfl⟩ | ⟨g, n', c', O, h, hbg, hb, hO, hn, hc, rfl⟩
 · injection h with h1 h2 h3
   subst h1; subst h2; subst h3
   obtain rfl : m = 0 := by omega
   exact OwnL.nil_ _ _ _
 · injection h with h1 h2 h3
   subst h1; subst h2; subst h3
   exact .inr ⟨g, m, c, O, rfl, hbg, hb, hO, by omega, hc, by rw [List.take_take, Nat.min_eq_left hm]⟩
end
theorem zero_cells (n : Nat) : Builtin.zeroCells (Value.int IntKind.u32 0).cells n = (u32s (List.replicate n 0)).toArray := by
 apply Array.ext
 · simp [Builtin.zeroCells, u32s, Value.cells]
 · intro j h1 h2
   simp [Builtin.zeroCells, u32s, Value.cells, Nat.mod_one]
section
variable {P : Program} (w : World)
theorem run_append_u32 (base : Nat) (t ty e : TypeId) (i : TypeInfo) (ht : P.underlying t = some (.slice e)) (hi : P.info? e = some i) (hz : i.zero = some (.int .u32 0)) (hsize : i.size = 1) (hby : i.bytes = 4)
 (v : Value) (l : List Nat) (hown : OwnL w base e v l) (B : Nat) (A : Option Addr) (m c : Nat) (news : List Nat) (hs : Lim w B A m c news) (hlen : l.length + m ≤ 1099511627776) (hbase : base ≤ w.heap.size) :
 ∃ v' w', (Builtin.append_ #[t, t] ty #[v, .slice A m c]).run P w = .ok v' w' ∧ OwnL w' base e v' (l ++ news) ∧ w.grownBy w' v.ownBlock ∧ (v'.ownBlock = v.ownBlock ∨ v'.ownBlock = some w.heap.size) := by
 have hnl := hs.len
 rcases Nat.eq_zero_or_pos m with h0 | h0
 · subst h0
   have hn : news = [] := List.eq_nil_of_length_eq_zero hnl
   subst hn
   refine ⟨v, w, ?_, by simpa using hown, World.grownBy.refl w _, .inl rfl⟩
   obtain ⟨A', c', hv⟩ := hown.form
   rcases hown with ⟨rfl, rfl⟩ | ⟨g, n, cc, O, rfl, hbg, hb, hO, hn, hc, rfl⟩
   · cases A <;> simp [Builtin.append_, run_underlying ht, sizeOf, typeInfo, hi, Builtin.lenOf, Builtin.firstCells, loadCells, loadCellsFrom]
   · cases A <;> simp [Builtin.append_, run_underlying ht, sizeOf, typeInfo, hi, Builtin.lenOf, Builtin.firstCells, hn, storeCells, loadCells, loadCellsFrom]
 · obtain ⟨b, o, rfl, hb, hc⟩ := hs.addr h0
   have hcells : ∀ j u, (u32s news)[j]? = some u → w.cell? ((⟨b, o, none⟩ : Addr).add j) = some u := by
    intro j u hu
    rw [Addr.add_lit]
    rw [u32s_get?] at hu
    cases hj : news[j]? with
    | none => rw [hj] at hu; cases hu
    | some x => rw [hj] at hu; cases hu; exact hc j x hj
   have hnl2 : (u32s news).length = m * i.size := by rw [u32s_length, hnl, hsize, Nat.mul_one]
   have mk : ∀ (old : Nat), old < l.length + m → ∀ row : Option Nat,
    OwnL (w.drew.alloc (.cells ((u32s l).toArray ++ (u32s news).toArray ++ Builtin.zeroCells (Value.int IntKind.u32 0).cells (grownCap w (l.length + m) old e - (l.length + m))) e)) base e
     (.slice (some ⟨w.heap.size, 0, none⟩) (l.length + m) (grownCap w (l.length + m) old e)) (l ++ news) ∧
    w.grownBy (w.drew.alloc (.cells ((u32s l).toArray ++ (u32s news).toArray ++ Builtin.zeroCells (Value.int IntKind.u32 0).cells (grownCap w (l.length + m) old e - (l.length + m))) e)) row := by
    intro old ho row
    have hge := grownCap_ge w (l.length + m) old e
    have hcm := grownCap_le_maxLen w (l.length + m) old e (by simp only [maxLen]; omega)
    refine ⟨.inr ⟨w.heap.size, _, _, l ++ news ++ List.replicate (grownCap w (l.length + m) old e - (l.length + m)) 0, rfl, hbase, ⟨?_, ?_⟩, ?_, hge, by simp only [maxLen] at hcm; omega, ?_⟩, ⟨rfl, rfl, rfl, by simp, fun k hk _ => heap_alloc_old _ _ hk⟩⟩
    · rw [zero_cells, List.append_toArray, List.append_toArray, ← u32s_append, ← u32s_append]
      exact heap_alloc_new w.drew _
    · exact (hown.bd.append hs.bd).append (Bd.replicate _)
    · simp only [List.length_append, List.length_replicate, hnl]; omega
    · rw [List.take_left' (by rw [List.length_append, hnl])]
   rcases hown with ⟨rfl, rfl⟩ | ⟨g, n, cap, O, rfl, hbg, hbuf, hO, hnc, hcm, rfl⟩
   · have hr := run_append_nil (P := P) w t ty e i _ ht hi hz ⟨b, o, none⟩ m c (u32s news) hnl2 hcells h0 (by simp at hlen; omega) (by rw [hby]; simp at hlen; omega)
     have hgr := mk 0 (by simp; omega) (Value.ownBlock (.slice none 0 0))
     simp only [List.length_nil, Nat.zero_add, List.nil_append, u32s, List.map_nil, Array.empty_append] at hgr hr ⊢
     exact ⟨_, _, hr, hgr.1, hgr.2, .inr rfl⟩
   · have hl : (O.take n).length = n := by rw [List.length_take, hO, Nat.min_eq_left hnc]
     rw [hl] at hlen mk
     by_cases hroom : n + m ≤ cap
     · have hfit : n * i.size + (u32s news).length ≤ (u32s O).toArray.size := by simp [u32s, hsize, hnl, hO]; omega
       have hr := run_append_room (P := P) w t ty e i ht hi g n cap _ hbuf.bk ⟨b, o, none⟩ m c (u32s news) hnl2 hcells (u32s_one news) hroom hfit
       refine ⟨_, _, hr, .inr ⟨g, n + m, cap, O.take n ++ news ++ O.drop (n + m), rfl, hbg, ⟨?_, ?_⟩, ?_, hroom, hcm, ?_⟩, ⟨rfl, rfl, rfl, by simp, fun k _ hk => setRow_other w g k _ (fun e => hk (by simp [Value.ownBlock, e]))⟩, .inl rfl⟩
       · have hst := setRow_heap w g _ ((u32s O).take (n * i.size) ++ u32s news ++ (u32s O).drop (n * i.size + (u32s news).length)).toArray e _ hbuf.bk
         have e1 : (u32s O).take (n * i.size) ++ u32s news ++ (u32s O).drop (n * i.size + (u32s news).length) = u32s (O.take n ++ news ++ O.drop (n + m)) := by
          rw [hsize, Nat.mul_one, u32s_length, hnl]; simp [u32s, List.map_take, List.map_drop]
         rw [e1] at hst
         simp only [e1] at *
         exact hst
       · exact ((hbuf.bd.take _).append hs.bd).append (hbuf.bd.drop _)
       · simp only [List.length_append, hl, hnl, List.length_drop, hO]; omega
       · rw [List.take_left' (by rw [List.length_append, hl, hnl])]
     · have holds : ∀ j u, (u32s (O.take n))[j]? = some u → w.cell? ((⟨g, 0, none⟩ : Addr).add j) = some u := by
        intro j u hu
        rw [Addr.add_lit, Nat.zero_add, hbuf.bk.cell, List.getElem?_toArray]
        rw [← u32s_take, List.getElem?_take] at hu
        split at hu
        · exact hu
        · cases hu
       have hr := run_append_grow (P := P) w t ty e i _ ht hi hz ⟨g, 0, none⟩ n cap (u32s (O.take n)) (by rw [u32s_length, hl, hsize, Nat.mul_one]) holds ⟨b, o, none⟩ m c (u32s news) hnl2 hcells (by omega) (by omega) (growslice_fits (by omega) (by rw [hby]; omega))
       have hgr := mk cap (by omega) (Value.ownBlock (.slice (some ⟨g, 0, none⟩) n cap))
       exact ⟨_, _, hr, hgr.1, hgr.2, .inr rfl⟩
theorem wp_append_u32 {o : Oper} {a : Act} {K : Act → World → Prop} {Q : Exit → Act → World → Prop} (s x : Operand) (t : TypeId) (ho : o.op = .call { callee := .builtin .append, args := #[s, x], argTypes := #[t, t] })
 (base : Nat) (e : TypeId) (i : TypeInfo) (ht : P.underlying t = some (.slice e)) (hi : P.info? e = some i) (hz : i.zero = some (.int .u32 0)) (hsize : i.size = 1) (hby : i.bytes = 4)
 (v : Value) (l : List Nat) (hs : a.eval s = v) (hown : OwnL w base e v l) (B : Nat) (A : Option Addr) (m c : Nat) (news : List Nat) (hx : a.eval x = .slice A m c) (hl : Lim w B A m c news) (hlen : l.length + m ≤ 1099511627776) (hbase : base ≤ w.heap.size)
 (h : ∀ v' w', OwnL w' base e v' (l ++ news) → w.grownBy w' v.ownBlock → (v'.ownBlock = v.ownBlock ∨ v'.ownBlock = some w.heap.size) → K (a.put o.dst v') w') : o.wp P a w K Q := by
 obtain ⟨v', w', hr, h2, h3, h4⟩ := run_append_u32 (P := P) w base t o.type e i ht hi hz hsize hby v l hown B A m c news hl hlen hbase
 unfold Oper.wp execOp
 simp only [ho, resolve, invoke, builtin, Sem.run_bind, Sem.run_pure, Result.andThen_ok, List.map_toArray, List.map_cons, List.map_nil, hs, hx, hr]
 exact h v' w' h2 h3 h4
theorem wpList_append_u32 {ops : Array Oper} {rest : List Oper} {o : Oper} {a : Act} {Q : Exit → Act → World → Prop} (hgd : o.guard = none) (s x : Operand) (t : TypeId)
 (ho : o.op = .call { callee := .builtin .append, args := #[s, x], argTypes := #[t, t] })
 (base : Nat) (e : TypeId) (i : TypeInfo) (ht : P.underlying t = some (.slice e)) (hi : P.info? e = some i) (hz : i.zero = some (.int .u32 0)) (hsize : i.size = 1) (hby : i.bytes = 4)
 (v : Value) (l : List Nat) (hs : a.eval s = v) (hown : OwnL w base e v l) (B : Nat) (A : Option Addr) (m c : Nat) (news : List Nat) (hx : a.eval x = .slice A m c) (hl : Lim w B A m c news) (hlen : l.length + m ≤ 1099511627776) (hbase : base ≤ w.heap.size)
 (h : ∀ v' w', OwnL w' base e v' (l ++ news) → w.grownBy w' v.ownBlock → (v'.ownBlock = v.ownBlock ∨ v'.ownBlock = some w.heap.size) → wpList P ops Q rest (a.put o.dst v') w') : wpList P ops Q (o :: rest) a w :=
 wpList_plain hgd fun _ hK => wp_append_u32 w s x t ho base e i ht hi hz hsize hby v l hs hown B A m c news hx hl hlen hbase fun v' w' h2 h3 h4 => hK _ _ (h v' w' h2 h3 h4)
end
end Go.Proofs.YthlfhfkfjefidaaGreat
/- The walks of math/bits.Div32 and of sized. -/
namespace Go.Proofs.YthlfhfkfjefidaaGreat
open Go.RowKit
theorem or_u64 (h l : Nat) (hh : h < 4294967296) (hl : l < 4294967296) : bits .or .u64 ((h : Int) * 4294967296) (l : Int) = (h : Int) * 4294967296 + (l : Int) := by
 have e : (h : Int) * 4294967296 = ((h * 4294967296 : Nat) : Int) := by simp
 rw [e, u64_or_nat _ _ (by omega) (by omega), nat_join 32 _ _ (by omega) hl]
 simp
theorem div_parts {h l y : Nat} (hl : l < 4294967296) (hy : y < 4294967296) (hh : h < y) :
 ∃ q r : Nat, ((h : Int) * 4294967296 + l) / y % 4294967296 = q ∧ ((h : Int) * 4294967296 + l) % y % 4294967296 = r ∧ q < 4294967296 ∧ r < y ∧ h * 4294967296 + l = q * y + r := by
 have e : (h : Int) * 4294967296 + l = ((h * 4294967296 + l : Nat) : Int) := by simp
 have hq : (h * 4294967296 + l) / y < 4294967296 := by
  apply Nat.div_lt_of_lt_mul
  have : (h + 1) * 4294967296 ≤ y * 4294967296 := Nat.mul_le_mul_right _ hh
  omega
 have hr : (h * 4294967296 + l) % y < y := Nat.mod_lt _ (by omega)
 refine ⟨(h * 4294967296 + l) / y, (h * 4294967296 + l) % y, ?_, ?_, hq, hr, ?_⟩
 · rw [e, ← Int.natCast_ediv]
   generalize (h * 4294967296 + l) / y = q at hq
   omega
 · rw [e, ← Int.natCast_emod]
   generalize (h * 4294967296 + l) % y = r at hr
   omega
 · have := Nat.div_add_mod (h * 4294967296 + l) y
   rw [Nat.mul_comm y] at this
   omega
set_option maxHeartbeats 1000000 in
theorem div32_any (h l y : Nat) (w : World) (hl : l < 4294967296) (hy : y < 4294967296) (hh : h < y) :
 Calls Tryz.prog 144 #[.int .u32 (h : Int), .int .u32 (l : Int), .int .u32 (y : Int)] w fun e w' =>
  (∃ q r : Nat, e = .returned (.tuple #[.int .u32 (q : Int), .int .u32 (r : Int)]) ∧ q < 4294967296 ∧ r < y ∧ Hid (h * 4294967296 + l = q * y + r)) ∧ ∃ k, w' = w.drewN k := by
 have h1 : ((y : Int) != 0) = true := by simp; omega
 have h2 : decide (y ≤ h) = false := by simpa using hh
 have h3 := or_u64 h l (by omega) hl
 have h4 : 0 ≤ (h : Int) * 4294967296 + (l : Int) := by omega
 have h5 : 0 < (y : Int) := by omega
 have h6 : ((y : Int) == 0) = false := by simp; omega
 go_enter Tryz.func144, Tryz.ntmps144
 go_wp2
 go_quiet (fail)
 go_wp2
 go_ret2
 obtain ⟨q, r, e1, e2, hq, hr, hsum⟩ := div_parts hl hy hh
 exact ⟨⟨q, r, ret_int2 e1 e2, hq, hr, hsum⟩, _, rfl⟩
theorem sized_new (A : Option Addr) (n c : Nat) (m : Nat) (w : World) (h : c < m) (hm : m ≤ 1099511627776) :
 Calls Tryz.prog 132 #[.slice A n c, .int .i64 (m : Int)] w fun e w' => e = .returned (.slice (some ⟨w.heap.size, 0, none⟩) m m) ∧ w' = w.alloc (.cells (u32s (List.replicate m 0)).toArray 81) := by
 obtain ⟨i0, hi0, hz0, hz1, hz2⟩ := info_parts info_u32
 have hmk := fun W => make_u32 (P := Tryz.prog) Tryz.underlying22 hi0 hz0 hz1 hz2 m (m : Int) rfl hm W
 clear hi0 hz0 hz1 hz2
 have hd : decide (c < m) = true := by simpa using h
 go_enter Tryz.func132, Tryz.ntmps132
 go_wp2
 go_ret
 exact ⟨rfl, rfl⟩
theorem sized_same (A : Option Addr) (n c : Nat) (m : Nat) (w : World) (h : m ≤ c) :
 Calls Tryz.prog 132 #[.slice A n c, .int .i64 (m : Int)] w fun e w' => e = .returned (.slice A m c) ∧ w = w' := by
 have hd : decide (c < m) = false := by simpa using h
 go_enter Tryz.func132, Tryz.ntmps132
 go_wp2
 go_ret
 exact ⟨rfl, rfl⟩
end Go.Proofs.YthlfhfkfjefidaaGreat
