/- Several texts in one. -/
import Derived.Test.YtfnibkodccfocaaGreatRows
import Derived.Test.YtfnibkodccfocaaGreatMem
import Derived.Below
import Derived.ProofKit
import Derived.Test.YtfnibkodccfocaaGreatIntH
import Derived.Lib.SmallJoins
import Derived.Deep.Slices
import Derived.Deep.Fields
import Derived.OpenShut
/- From a law's contract to its statement: the part that is the same for each law. -/
namespace Go.Proofs.YtfnibkodccfocaaGreat
open Go.ChangeShapes Go.WideShapes Go.ChangeAt Go.RowKit

theorem Tryz.own : ownKnob Tryz.prog.godebug = none := by kernel_rfl
theorem Tryz.laidOut : laidOutB Tryz.prog = true := by kernel_rfl

section
variable {H : Type} {enc : TypeId × Value → H} {P : Program}
/-- Arguments read as before, where nothing old has turned. -/
theorem trodAll_stays (hl : laidOutB P = true) {W W' : World} (hb : Below W.heap.size W W') (sp : Nat → Bool) : ∀ {ts : List TypeId} {vs : List Value} {ds : List (DataW H)} {ps : List MemPlace},
    (∀ t ∈ ts, P.readableRec t = true ∧ t < P.types.size) → DataW.TrodAll enc P W 0 (fun _ => true) true ts vs ds ps → (∀ x ∈ ps, x.block < W.heap.size) → (∀ x ∈ ps, sp x.block = true) → DataW.TrodAll enc P W' 0 sp true ts vs ds ps
  | [], [], [], _, _, h, _, _ => h
  | t :: ts, v :: vs, d :: ds, ps, hr, h, hlt, hs => by
    obtain ⟨p, q, h1, h2, rfl⟩ := h
    have ht := hr t (by simp)
    refine ⟨p, q, WideElems.Trod_stays hl ht.1 ht.2 h1 (fun x hx => hb.same (hlt x (by simp [hx]))) (fun x hx => hs x (by simp [hx])), ?_, rfl⟩
    exact trodAll_stays hl hb sp (fun t' ht' => hr t' (by simp [ht'])) h2 (fun x hx => hlt x (by simp [hx])) (fun x hx => hs x (by simp [hx]))
  | [], [], _ :: _, _, _, h, _, _ => h.elim
  | [], _ :: _, _, _, _, h, _, _ => h.elim
  | _ :: _, [], _, _, _, h, _, _ => h.elim
  | _ :: _, _ :: _, [], _, _, h, _, _ => h.elim

/-- A law whose call has made memory and turned nothing old, and told true. -/
theorem law_post {f : Func} {s : ChangeSpec} {apart fresh handsOn again : Bool} {W W' : World} {args : Array Value} {ds gs : List (DataW H)} {before : List MemPlace} {tb : TypeId}
    (hl : laidOutB P = true) (hreadB : f.params.toList.all (fun t => P.readableRec t && decide (t < P.types.size)) = true) (hrt : f.resultTypes = #[tb]) (htb : P.underlying tb = some .bool) (hv0 : s.vars = [])
    (hW : DataW.Whole enc P f.params.toList s.vars apart W args.toList ds gs before)
    (hres : (s.fn H (ds ++ gs)).results = [.lit (.bool true)]) (hargs : (s.fn H (ds ++ gs)).args = ds) (hvars : (s.fn H (ds ++ gs)).vars = [])
    (hb : Below W.heap.size W W') : s.post enc P f apart fresh handsOn again W args (.bool true) W' := by
  have hread : ∀ t ∈ f.params.toList, P.readableRec t = true ∧ t < P.types.size := fun t ht => by simpa using List.all_eq_true.1 hreadB t ht
  have hW0 := hW
  have hlt : ∀ p ∈ before, p.block < W.heap.size := fun p hp => hW.lt p hp
  have hold : ∀ p ∈ before, (fun b => decide (b < W.heap.size)) p.block = true := fun p hp => by simpa using hlt p hp
  obtain ⟨p, q, hA, hV, rfl, hz, hn⟩ := hW
  rw [hv0] at hV
  obtain ⟨rfl, rfl⟩ := trodVars_none hV
  simp only [List.append_nil] at *
  have hA' : ∀ sp : Nat → Bool, (∀ x ∈ p, sp x.block = true) → DataW.TrodAll enc P W' 0 sp true f.params.toList args.toList (s.fn H ds).args p := fun sp hs => by
    rw [hargs]
    exact trodAll_stays hl hb sp hread hA hlt hs
  have hR : ∀ (b : Nat) (sp : Nat → Bool) (hd : Bool), DataW.TrodAll enc P W' b sp hd f.resultTypes.toList ((Value.bool true).resultList f.resultTypes.size) (s.fn H ds).results [] := fun b sp hd => by
    rw [hres, hrt]
    exact trodAll_mk1 (shut_bool htb true)
  have hVs : ∀ sp : Nat → Bool, DataW.TrodVars enc P W' sp s.vars (s.fn H ds).vars [] := fun sp => by
    rw [hv0, hvars]
    rfl
  refine ⟨ds, [], p, [], p, [], hW0, by simpa using hR _ _ _, by simpa using hA' _ hold, by simpa using hVs _, World.keptBut_mono (fun x hx => ⟨hx, .inr (.inl hx)⟩) (hb.frame (· ∈ p)), fun _ => ?_⟩
  refine ⟨ok_one hrt rfl (okWide_bool_mk htb true), _, _, ([] ++ p) ++ [], ⟨[] ++ p, [], by simpa using trodAll_append (hA' _ (fun _ _ => rfl)) (hR _ _ _), by simpa using hVs _, rfl, ?_, ?_⟩, ?_⟩
  · intro b off hp
    have hin : MemPlace.cell b off ∈ p := by simpa using hp
    rw [hb.frozen (hlt _ hin)]
    exact hz b off hin
  · intro ha
    simpa using hn ha
  · intro x hx _
    simpa using hx
end

end Go.Proofs.YtfnibkodccfocaaGreat

/- Arguments that are integers, opened. -/
namespace Go.Proofs.YtfnibkodccfocaaGreat
open Go.Joins Go.ChangeShapes Go.WideShapes Go.RowKit Go.Deep Go.ChangeAt

theorem spot_of_cellI {w : World} {a : Addr} {u : Value} (h : w.cell? a = some u) : a = ⟨a.block, a.off, none⟩ := by
  obtain ⟨b, o, s⟩ := a
  unfold World.cell? at h
  split at h
  · split at h
    · cases h
    · rename_i hs
      cases s with
      | none => rfl
      | some x => simp at hs
  · cases h
theorem add_plainI (b o j : Nat) : (⟨b, o, none⟩ : Addr).add j = ⟨b, o + j, none⟩ := by
  unfold Addr.add
  split
  · simp [*]
  · rfl
section
variable {H : Type} {enc : TypeId × Value → H} {P : Program} {w : World}
/-- A cell that is a slice of limbs. -/
theorem open_limbs {t e : TypeId} {fuel : Nat} {u : Value} {x : DataW H × List MemPlace} (ht : P.underlying t = some (.slice e)) (he : P.underlying e = some (.int .u32)) (hc : P.cellsOf e = 1)
    (h : DataW.trod enc P w 0 (fun _ => true) true fuel t [u] = some x) : ∃ (A : Option Addr) (n c : Nat) (l : List Nat), u = .slice A n c ∧ Lim w w.heap.size A n c l := by
  rcases open_ints ht he hc h with ⟨hcs, _⟩ | ⟨a, len, cap, zs, hcs, _, hl, hm, hz, _, hi, hwf⟩
  · have e : u = .slice none 0 0 := by simpa using hcs
    exact ⟨none, 0, 0, [], e, Lim.nil_ _ _⟩
  · have e : u = .slice (some a) len cap := by simpa using hcs
    simp only [if_true] at hz
    have hnat : ∀ z ∈ zs, 0 ≤ z ∧ z < 4294967296 := fun z hzz => by
      have := hwf z hzz
      simp only [Lit.wf, Bool.and_eq_true, decide_eq_true_eq] at this
      have h1 : IntKind.min .u32 = 0 := by decide
      have h2 : IntKind.max .u32 = 4294967295 := by decide
      omega
    refine ⟨some a, len, cap, (zs.take len).map Int.toNat, e, ⟨⟨by rw [u32s_length, List.length_map, List.length_take]; omega, hl, by simpa [maxLen] using hm, fun hn => ?_⟩, fun y hy => ?_⟩⟩
    · have ha := hi 0 (by omega)
      rw [show a.add 0 = a from rfl] at ha
      have hs := spot_of_cellI ha
      refine ⟨a.block, a.off, congrArg some hs, World.block_lt_of_cell? w _ ha, fun k v hv => ?_⟩
      rw [u32s_get?, List.getElem?_map] at hv
      have hk : k < len := by
        rcases Nat.lt_or_ge k len with h | h
        · exact h
        · rw [List.getElem?_eq_none (by rw [List.length_take]; omega)] at hv; cases hv
      have hkz : k < zs.length := by omega
      have hik := hi k hkz
      rw [hs, add_plainI] at hik
      rw [List.getElem?_take, if_pos hk, List.getElem?_eq_getElem hkz] at hv
      rw [List.getD_eq_getElem?_getD, List.getElem?_eq_getElem hkz] at hik
      have hb := hnat zs[k] (List.getElem_mem hkz)
      simp only [Option.map_some, Option.some.injEq, Option.getD_some] at hv hik
      rw [← hv, hik, Int.toNat_of_nonneg hb.1]
    · obtain ⟨z, hzz, rfl⟩ := List.mem_map.1 hy
      have := hnat z (List.mem_of_mem_take hzz)
      omega
end
set_option maxRecDepth 100000 in
/-- An argument that is an integer. -/
theorem open_I {H : Type} {enc : TypeId × Value → H} {w : World} {v : Value} {d : DataW H} {ps : List MemPlace} {r : Reach} {b0 : Nat}
    (hv : Value.okWide Tryz.prog w r b0 24 v) (h : DataW.Trod enc Tryz.prog w 0 (fun _ => true) true 24 v d ps) :
    ∃ (s : Bool) (A : Option Addr) (n c : Nat) (l : List Nat), v = .agg #[.bool s, .slice A n c] ∧ Lim w w.heap.size A n c l := by
  obtain ⟨f0, f1, hu, ho, t0, t1⟩ : ∃ f0 f1, Tryz.prog.underlying 24 = some (.struct #[f0, f1]) ∧ oneCellFields Tryz.prog #[f0, f1] = true ∧ f0.type = 4 ∧ f1.type = 22 :=
    ⟨(Tryz.prog.fieldsOf 24)[0]!, (Tryz.prog.fieldsOf 24)[1]!, by kernel_rfl, by kernel_rfl, by kernel_rfl, by kernel_rfl⟩
  obtain ⟨u0, u1, y0, y1, fl, rfl, -, -, k0, k1⟩ := open_agg2 hu ho (by kernel_rfl) hv h
  rw [t0] at k0
  rw [t1] at k1
  obtain ⟨s, e0, -⟩ := DataW.trod_bool Tryz.underlying4 k0
  obtain ⟨A, n, c, l, e1, hl⟩ := open_limbs Tryz.underlying22 Tryz.underlying75 (by kernel_rfl) k1
  have e0' : u0 = .bool s := by simpa using e0
  subst e0'; subst e1
  exact ⟨s, A, n, c, l, rfl, hl⟩

end Go.Proofs.YtfnibkodccfocaaGreat

/- Arguments that are fractions, opened. -/
namespace Go.Proofs.YtfnibkodccfocaaGreat
open Go.Joins Go.ChangeShapes Go.WideShapes Go.RowKit Go.Deep Go.ChangeAt

set_option maxRecDepth 100000 in
/-- Two cells that read as an integer. -/
theorem open_IC {H : Type} {enc : TypeId × Value → H} {w : World} {a b : Value} {fuel : Nat} {x : DataW H × List MemPlace}
    (h : DataW.trod enc Tryz.prog w 0 (fun _ => true) true fuel 24 [a, b] = some x) :
    ∃ (s : Bool) (A : Option Addr) (n c : Nat) (l : List Nat), a = .bool s ∧ b = .slice A n c ∧ Lim w w.heap.size A n c l := by
  obtain ⟨f0, f1, hu, ho, t0, t1⟩ : ∃ f0 f1, Tryz.prog.underlying 24 = some (.struct #[f0, f1]) ∧ oneCellFields Tryz.prog #[f0, f1] = true ∧ f0.type = 4 ∧ f1.type = 22 :=
    ⟨(Tryz.prog.fieldsOf 24)[0]!, (Tryz.prog.fieldsOf 24)[1]!, by kernel_rfl, by kernel_rfl, by kernel_rfl, by kernel_rfl⟩
  obtain ⟨y0, y1, n, -, -, h0, h1⟩ := trod_struct2 hu h
  obtain ⟨o0, k0⟩ := hone_of ho 0 f0 rfl
  obtain ⟨o1, k1⟩ := hone_of ho 1 f1 rfl
  have j0 : DataW.trod enc Tryz.prog w 0 (fun _ => true) true n f0.type [a] = some y0 := by simpa [o0, k0] using h0
  have j1 : DataW.trod enc Tryz.prog w 0 (fun _ => true) true n f1.type [b] = some y1 := by simpa [o1, k1] using h1
  rw [t0] at j0
  rw [t1] at j1
  obtain ⟨s, e0, -⟩ := DataW.trod_bool Tryz.underlying4 j0
  obtain ⟨A, m, c, l, e1, hl⟩ := open_limbs Tryz.underlying22 Tryz.underlying75 (by kernel_rfl) j1
  have e0' : a = .bool s := by simpa using e0
  exact ⟨s, A, m, c, l, e0', e1, hl⟩
set_option maxRecDepth 100000 in
/-- An argument that is a fraction. -/
theorem open_R {H : Type} {enc : TypeId × Value → H} {w : World} {v : Value} {d : DataW H} {ps : List MemPlace} {r : Reach} {b0 : Nat}
    (hv : Value.okWide Tryz.prog w r b0 41 v) (h : DataW.Trod enc Tryz.prog w 0 (fun _ => true) true 41 v d ps) :
    ∃ (s : Bool) (A : Option Addr) (n c : Nat) (l : List Nat) (t : Bool) (B : Option Addr) (m e : Nat) (k : List Nat), v = .agg #[.bool s, .slice A n c, .bool t, .slice B m e] ∧ Lim w w.heap.size A n c l ∧ Lim w w.heap.size B m e k := by
  obtain ⟨f0, f1, hu, t0, t1, o0, o1⟩ : ∃ f0 f1, Tryz.prog.underlying 41 = some (.struct #[f0, f1]) ∧ f0.type = 24 ∧ f1.type = 24 ∧ f0.offset = 0 ∧ f1.offset = 2 :=
    ⟨(Tryz.prog.fieldsOf 41)[0]!, (Tryz.prog.fieldsOf 41)[1]!, by kernel_rfl, by kernel_rfl, by kernel_rfl, by kernel_rfl, by kernel_rfl⟩
  have hI : Tryz.prog.cellsOf 24 = 2 := by kernel_rfl
  have hR : Tryz.prog.cellsOf 41 = 4 := by kernel_rfl
  obtain ⟨cs, rfl, hsz⟩ := okWide_struct hu hv
  obtain ⟨c0, c1, c2, c3, rfl⟩ := array4 (hsz.trans hR)
  obtain ⟨fuel, hf⟩ := h
  obtain ⟨y0, y1, n, -, -, h0, h1⟩ := trod_struct2 hu hf
  have j0 : DataW.trod enc Tryz.prog w 0 (fun _ => true) true n 24 [c0, c1] = some y0 := by simpa [Value.cells, t0, o0, hI] using h0
  have j1 : DataW.trod enc Tryz.prog w 0 (fun _ => true) true n 24 [c2, c3] = some y1 := by simpa [Value.cells, t1, o1, hI] using h1
  obtain ⟨s, A, n1, c, l, rfl, rfl, hl⟩ := open_IC j0
  obtain ⟨t, B, m, e, k, rfl, rfl, hk⟩ := open_IC j1
  exact ⟨s, A, n1, c, l, t, B, m, e, k, rfl, hl, hk⟩

end Go.Proofs.YtfnibkodccfocaaGreat

/- An argument that is an array of two integers, opened. -/
namespace Go.Proofs.YtfnibkodccfocaaGreat
open Go.Joins Go.ChangeShapes Go.WideShapes Go.RowKit Go.Deep Go.ChangeAt

theorem okWide_array_ {P : Program} {w : World} {r : Reach} {base : Nat} {t e : TypeId} {n : Nat} {v : Value} (ht : P.underlying t = some (.array n e)) (h : Value.okWide P w r base t v) : ∃ cs, v = .agg cs ∧ cs.size = P.cellsOf t := by
  simp only [Value.okWide, ht] at h
  obtain ⟨cs, h1, h2, _⟩ := h
  exact ⟨cs, h1, h2⟩
theorem array2 {cs : Array Value} (h : cs.size = 2) : ∃ a b, cs = #[a, b] := by
  obtain ⟨l⟩ := cs
  match l, h with
  | [a, b], _ => exact ⟨a, b, rfl⟩
set_option maxRecDepth 100000 in
theorem open_N {H : Type} {enc : TypeId × Value → H} {w : World} {v : Value} {d : DataW H} {ps : List MemPlace} {r : Reach} {b0 : Nat}
    (hv : Value.okWide Tryz.prog w r b0 42 v) (h : DataW.Trod enc Tryz.prog w 0 (fun _ => true) true 42 v d ps) :
    ∃ n m : Int, v = .agg #[.int .i64 n, .int .i64 m] ∧ -9223372036854775808 ≤ n ∧ n ≤ 9223372036854775807 ∧ -9223372036854775808 ≤ m ∧ m ≤ 9223372036854775807 := by
  have hu : Tryz.prog.underlying 42 = some (.array 2 3) := by kernel_rfl
  have hI : Tryz.prog.cellsOf 3 = 1 := by kernel_rfl
  have hR : Tryz.prog.cellsOf 42 = 2 := by kernel_rfl
  obtain ⟨cs, rfl, hsz⟩ := okWide_array_ hu hv
  obtain ⟨c0, c1, rfl⟩ := array2 (hsz.trans hR)
  obtain ⟨fuel, hf⟩ := h
  obtain ⟨xs, m, -, -, -, hl, hi⟩ := DataW.trod_array hu hf
  have h0 := hi 0 (by omega)
  have h1 := hi 1 (by omega)
  rw [hI] at h0 h1
  obtain ⟨y0, y1, rfl⟩ : ∃ y0 y1, xs = [y0, y1] := by
    match xs, hl with
    | [a, b], _ => exact ⟨a, b, rfl⟩
  have j0 : DataW.trod enc Tryz.prog w 0 (fun _ => true) true m 3 [c0] = some y0 := by simpa [Value.cells] using h0
  have j1 : DataW.trod enc Tryz.prog w 0 (fun _ => true) true m 3 [c1] = some y1 := by simpa [Value.cells] using h1
  obtain ⟨z0, e0, _, w0⟩ := DataW.trod_int Tryz.underlying3 j0
  obtain ⟨z1, e1, _, w1⟩ := DataW.trod_int Tryz.underlying3 j1
  simp only [Lit.wf, Bool.and_eq_true, decide_eq_true_eq] at w0 w1
  obtain rfl : c0 = .int .i64 z0 := by simpa using e0
  obtain rfl : c1 = .int .i64 z1 := by simpa using e1
  exact ⟨z0, z1, rfl, w0.1, w0.2, w1.1, w1.2⟩

end Go.Proofs.YtfnibkodccfocaaGreat
