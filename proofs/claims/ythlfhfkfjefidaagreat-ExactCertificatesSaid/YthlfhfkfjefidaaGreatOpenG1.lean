/- Several texts in one. -/
import Derived.Test.YthlfhfkfjefidaaGreatRows
import Derived.Test.YthlfhfkfjefidaaGreatBas1
import Derived.Below
import Derived.ProofKit
import Derived.Test.YthlfhfkfjefidaaGreatIntG
import Derived.Lib.SmallJoins
import Derived.Deep.Slices
import Derived.Deep.Fields
import Derived.OpenShut
/- From a law's contract to its statement: the part that is the same for each law. -/
namespace Go.Proofs.YthlfhfkfjefidaaGreat
open Go.ChangeShapes Go.WideShapes Go.ChangeAt Go.RowKit
theorem Tryz.own : ownKnob Tryz.prog.godebug = none := by kernel_rfl
theorem Tryz.laidOut : laidOutB Tryz.prog = true := by kernel_rfl
section
variable {H : Type} {enc : TypeId × Value → H} {P : Program}
theorem trodAll_stays (hl : laidOutB P = true) {W W' : World} (hb : Below W.heap.size W W') (sp : Nat → Bool) : ∀ {ts : List TypeId} {vs : List Value} {ds : List (DataW H)} {ps : List MemPlace},
 (∀ t ∈ ts, P.readableRec t = true ∧ t < P.types.size) → DataW.TrodAll enc P W 0 (fun _ => true) true ts vs ds ps → (∀ x ∈ ps, x.block < W.heap.size) → (∀ x ∈ ps, sp x.block = true) → DataW.TrodAll enc P W' 0 sp true ts vs ds ps
 | [], [], [], _, _, h, _, _ => h
 | t :: ts, v :: vs, d :: ds, ps, hr, h, hlt, hs => by
   obtain ⟨p, q, h1, h2, rfl⟩ := h
   have ht := hr t (by simp)
   refine ⟨p, q, WideElems.Trod_stays hl ht.1 ht.2 h1 (fun x hx => hb.same (hlt x (by simp [hx]))) (fun x hx => hs x (by simp [hx])), ?_, rfl⟩
   exact trodAll_stays hl hb sp (fun t' ht' => hr t' (by simp [ht'])) h2 (fun x hx => hlt x (by simp [hx])) (fun x hx => hs x (by simp [hx]))
 | [], [], _ :: _, _, _, h, _, _ => h.elim
 | [], _ :: _, _, _, _, h, _, _ => h.elim
 | _ :: _, [], _, _, _, h, _, _ => h.elim
 | _ :: _, _ :: _, [], _, _, h, _, _ => h.elim
theorem law_post {f : Func} {s : ChangeSpec} {apart fresh handsOn again : Bool} {W W' : World} {args : Array Value} {ds gs : List (DataW H)} {before : List MemPlace} {tb : TypeId}
 (hl : laidOutB P = true) (hreadB : f.params.toList.all (fun t => P.readableRec t && decide (t < P.types.size)) = true) (hrt : f.resultTypes = #[tb]) (htb : P.underlying tb = some .bool) (hv0 : s.vars = [])
 (hW : DataW.Whole enc P f.params.toList s.vars apart W args.toList ds gs before)
 (hres : (s.fn H (ds ++ gs)).results = [.lit (.bool true)]) (hargs : (s.fn H (ds ++ gs)).args = ds) (hvars : (s.fn H (ds ++ gs)).vars = [])
 (hb : Below W.heap.size W W') : s.post enc P f apart fresh handsOn again W args (.bool true) W' := by
 have hread : ∀ t ∈ f.params.toList, P.readableRec t = true ∧ t < P.types.size := fun t ht => by simpa using List.all_eq_true.1 hreadB t ht
 have hW0 := hW
 have hlt : ∀ p ∈ before, p.block < W.heap.size := fun p hp => hW.lt p hp
 have hold : ∀ p ∈ before, (fun b => decide (b < W.heap.size)) p.block = true := fun p hp => by simpa using hlt p hp
 obtain ⟨p, q, hA, hV, rfl, hz, hn⟩ := hW
 rw [hv0] at hV
 obtain ⟨rfl, rfl⟩ := trodVars_none hV
 simp only [List.append_nil] at *
 have hA' : ∀ sp : Nat → Bool, (∀ x ∈ p, sp x.block = true) → DataW.TrodAll enc P W' 0 sp true f.params.toList args.toList (s.fn H ds).args p := fun sp hs => by
  rw [hargs]
  exact trodAll_stays hl hb sp hread hA hlt hs
 have hR : ∀ (b : Nat) (sp : Nat → Bool) (hd : Bool), DataW.TrodAll enc P W' b sp hd f.resultTypes.toList ((Value.bool true).resultList f.resultTypes.size) (s.fn H ds).results [] := fun b sp hd => by
  rw [hres, hrt]
  exact trodAll_mk1 (shut_bool htb true)
 have hVs : ∀ sp : Nat → Bool, DataW.TrodVars enc P W' sp s.vars (s.fn H ds).vars [] := fun sp => by
  rw [hv0, hvars]
  rfl
 refine ⟨ds, [], p, [], p, [], hW0, by simpa using hR _ _ _, by simpa using hA' _ hold, by simpa using hVs _, World.keptBut_mono (fun x hx => ⟨hx, .inr (.inl hx)⟩) (hb.frame (· ∈ p)), fun _ => ?_⟩
 refine ⟨ok_one hrt rfl (okWide_bool_mk htb true), _, _, ([] ++ p) ++ [], ⟨[] ++ p, [], by simpa using trodAll_append (hA' _ (fun _ _ => rfl)) (hR _ _ _), by simpa using hVs _, rfl, ?_, ?_⟩, ?_⟩
 · intro b off hp
   have hin : MemPlace.cell b off ∈ p := by simpa using hp
   rw [hb.frozen (hlt _ hin)]
   exact hz b off hin
 · intro ha
   simpa using hn ha
 · intro x hx _
   simpa using hx
end
end Go.Proofs.YthlfhfkfjefidaaGreat
/- Arguments that are integers, opened. -/
namespace Go.Proofs.YthlfhfkfjefidaaGreat
open Go.Joins Go.ChangeShapes Go.WideShapes Go.RowKit Go.Deep Go.ChangeAt
theorem spot_of_cellI {w : World} {a : Addr} {u : Value} (h : w.cell? a = some u) : a = ⟨a.block, a.off, none⟩ := by
 obtain ⟨b, o, s⟩ := a
 unfold World.cell? at h
 split at h
 · split at h
   · cases h
   · rename_i hs
     cases s with
     | none => rfl
     | some x => simp at hs
 · cases h
theorem add_plainI (b o j : Nat) : (⟨b, o, none⟩ : Addr).add j = ⟨b, o + j, none⟩ := by
 unfold Addr.add
 split
 · simp [*]
 · rfl
section
variable {H : Type} {enc : TypeId × Value → H} {P : Program} {w : World}
theorem open_limbs {t e : TypeId} {fuel : Nat} {u : Value} {x : DataW H × List MemPlace} (ht : P.underlying t = some (.slice e)) (he : P.underlying e = some (.int .u32)) (hc : P.cellsOf e = 1)
 (h : DataW.trod enc P w 0 (fun _ => true) true fuel t [u] = some x) : ∃ (A : Option Addr) (n c : Nat) (l : List Nat), u = .slice A n c ∧ Lim w w.heap.size A n c l := by
 rcases open_ints ht he hc h with ⟨hcs, _⟩ | ⟨a, len, cap, zs, hcs, _, hl, hm, hz, _, hi, hwf⟩
 · have e : u = .slice none 0 0 := by simpa using hcs
   exact ⟨none, 0, 0, [], e, Lim.nil_ _ _⟩
 · have e : u = .slice (some a) len cap := by simpa using hcs
   simp only [if_true] at hz
   have hnat : ∀ z ∈ zs, 0 ≤ z ∧ z < 4294967296 := fun z hzz => by
    have := hwf z hzz
    simp only [Lit.wf, Bool.and_eq_true, decide_eq_true_eq] at this
    have h1 : IntKind.min .u32 = 0 := by decide
    have h2 : IntKind.max .u32 = 4294967295 := by decide
    omega
   refine ⟨some a, len, cap, (zs.take len).map Int.toNat, e, ⟨⟨by rw [u32s_length, List.length_map, List.length_take]; omega, hl, by simpa [maxLen] using hm, fun hn => ?_⟩, fun y hy => ?_⟩⟩
   · have ha := hi 0 (by omega)
     rw [show a.add 0 = a from rfl] at ha
     have hs := spot_of_cellI ha
     refine ⟨a.block, a.off, congrArg some hs, World.block_lt_of_cell? w _ ha, fun k v hv => ?_⟩
     rw [u32s_get?, List.getElem?_map] at hv
     have hk : k < len := by
      rcases Nat.lt_or_ge k len with h | h
      · exact h
      · rw [List.getElem?_eq_none (by rw [List.length_take]; omega)] at hv; cases hv
     have hkz : k < zs.length := by omega
     have hik := hi k hkz
     rw [hs, add_plainI] at hik
     rw [List.getElem?_take, if_pos hk, List.getElem?_eq_getElem hkz] at hv
     rw [List.getD_eq_getElem?_getD, List.getElem?_eq_getElem hkz] at hik
     have hb := hnat zs[k] (List.getElem_mem hkz)
     simp only [Option.map_some, Option.some.injEq, Option.getD_some] at hv hik
     rw [← hv, hik, Int.toNat_of_nonneg hb.1]
   · obtain ⟨z, hzz, rfl⟩ := List.mem_map.1 hy
     have := hnat z (List.mem_of_mem_take hzz)
     omega
end
end Go.Proofs.YthlfhfkfjefidaaGreat
/- Arguments that are fractions, opened. -/
namespace Go.Proofs.YthlfhfkfjefidaaGreat
open Go.Joins Go.ChangeShapes Go.WideShapes Go.RowKit Go.Deep Go.ChangeAt
set_option maxRecDepth 100000 in
theorem open_IC {H : Type} {enc : TypeId × Value → H} {w : World} {a b : Value} {fuel : Nat} {x : DataW H × List MemPlace}
 (h : DataW.trod enc Tryz.prog w 0 (fun _ => true) true fuel 24 [a, b] = some x) :
 ∃ (s : Bool) (A : Option Addr) (n c : Nat) (l : List Nat), a = .bool s ∧ b = .slice A n c ∧ Lim w w.heap.size A n c l := by
 obtain ⟨f0, f1, hu, ho, t0, t1⟩ : ∃ f0 f1, Tryz.prog.underlying 24 = some (.struct #[f0, f1]) ∧ oneCellFields Tryz.prog #[f0, f1] = true ∧ f0.type = 4 ∧ f1.type = 22 :=
  ⟨(Tryz.prog.fieldsOf 24)[0]!, (Tryz.prog.fieldsOf 24)[1]!, by kernel_rfl, by kernel_rfl, by kernel_rfl, by kernel_rfl⟩
 obtain ⟨y0, y1, n, -, -, h0, h1⟩ := trod_struct2 hu h
 obtain ⟨o0, k0⟩ := hone_of ho 0 f0 rfl
 obtain ⟨o1, k1⟩ := hone_of ho 1 f1 rfl
 have j0 : DataW.trod enc Tryz.prog w 0 (fun _ => true) true n f0.type [a] = some y0 := by simpa [o0, k0] using h0
 have j1 : DataW.trod enc Tryz.prog w 0 (fun _ => true) true n f1.type [b] = some y1 := by simpa [o1, k1] using h1
 rw [t0] at j0
 rw [t1] at j1
 obtain ⟨s, e0, -⟩ := DataW.trod_bool Tryz.underlying4 j0
 obtain ⟨A, m, c, l, e1, hl⟩ := open_limbs Tryz.underlying22 Tryz.underlying81 (by kernel_rfl) j1
 have e0' : a = .bool s := by simpa using e0
 exact ⟨s, A, m, c, l, e0', e1, hl⟩
end Go.Proofs.YthlfhfkfjefidaaGreat
/- An argument that is an array of two integers, opened. -/
namespace Go.Proofs.YthlfhfkfjefidaaGreat
open Go.Joins Go.ChangeShapes Go.WideShapes Go.RowKit Go.Deep Go.ChangeAt
end Go.Proofs.YthlfhfkfjefidaaGreat
