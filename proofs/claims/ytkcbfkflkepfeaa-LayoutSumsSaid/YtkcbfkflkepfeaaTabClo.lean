/- Walks: (table).closing. -/
import Derived.Test.YtkcbfkflkepfeaaFits
import Derived.Test.YtkcbfkflkepfeaaSortF
import Derived.Test.YtkcbfkflkepfeaaBuilt
import Derived.Test.YtkcbfkflkepfeaaMade
namespace Go.Proofs.Ytkcbfkflkepfeaa
open Go.RowKit

theorem own_grown {w w2 : World} {base e size n : Nat} {v : Value} {xs : List Value} {row : Option Nat} (h : w.ownsRow base e size v n xs) (hg : w.grownBy w2 row) (hne : ∀ g, v.ownBlock = some g → row ≠ some g) : w2.ownsRow base e size v n xs :=
  h.kept hg (by
    rcases h.2 with ⟨rfl, -⟩ | ⟨g, cap, cur, rfl, -⟩
    · exact .inl rfl
    · exact .inr (fun e => hne g rfl e.symm))
theorem Bk.grown {w w2 : World} {g t : Nat} {cs : Array Value} {row : Option Nat} (h : Bk w g t cs) (hg : w.grownBy w2 row) (hne : some g ≠ row) : Bk w2 g t cs := (hg.block g h.lt hne).trans h
theorem Bk.pair2 {w : World} {g t : Nat} {a b : Value} (h : Bk w g t #[a, b]) : (w.cell? ⟨g, 0, none⟩ = some a ∧ w.cell? ⟨g, 1, none⟩ = some b) ∧ w.frozen? ⟨g, 0, none⟩ = false ∧ w.frozen? ⟨g, 1, none⟩ = false :=
  ⟨⟨by simpa using h.cell 0, by simpa using h.cell 1⟩, h.frozen 0, h.frozen 1⟩
theorem Bk.four {w : World} {g t : Nat} {a b c d : Value} (h : Bk w g t #[a, b, c, d]) : w.cell? ⟨g, 0, none⟩ = some a ∧ w.cell? ⟨g, 1, none⟩ = some b ∧ w.cell? ⟨g, 2, none⟩ = some c ∧ w.cell? ⟨g, 3, none⟩ = some d :=
  ⟨by simpa using h.cell 0, by simpa using h.cell 1, by simpa using h.cell 2, by simpa using h.cell 3⟩
theorem Bk.one {w : World} {g t : Nat} {a : Value} (h : Bk w g t #[a]) : w.cell? ⟨g, 0, none⟩ = some a ∧ w.frozen? ⟨g, 0, none⟩ = false := ⟨by simpa using h.cell 0, h.frozen 0⟩

theorem Ints.own {w : World} {base e n c : Nat} {A : Option Addr} {l : List Int} (h : w.ownsRow base e 1 (.slice A n c) n (i64s l)) : Ints w w.heap.size A n c l := by
  obtain ⟨A', c', e, hI⟩ := Ints.of_own h
  injection e with e1 e2 e3
  subst e1; subst e3
  exact hI
/-- The number that a pointer's cell holds. -/
def boxOf (i : Value) (w : World) : Nat :=
  match i with
  | .pointer (some a) => match w.cell? a with
    | some (.int _ k) => k.toNat
    | _ => 0
  | _ => 0
theorem boxOf_eq {w : World} {g t k : Nat} (h : Bk w g t #[.int .i64 (k : Int)]) : boxOf (.pointer (some ⟨g, 0, none⟩)) w = k := by
  have := h.one.1
  simp only [boxOf, this]
  omega

/-- The state of the loop: k units are left. -/
structure Going (w : World) (s : Sys) (N : Nat) (TV : Array Value) (wr : World) (k kb : Nat) (v1 v2 : Value) (lb lo : List Int) : Prop where
  built : Built s N k lb lo
  kN : k ≤ N
  tab : Bk wr w.heap.size 68 TV
  res : Bk wr (w.heap.size + 1) 26 #[.slice none 0 0, .slice none 0 0]
  out : Bk wr (w.heap.size + 2) 26 #[v1, v2]
  box : Bk wr kb 3 #[.int .i64 (k : Int)]
  own1 : wr.ownsRow (w.heap.size + 3) 3 1 v1 lb.length (i64s lb)
  own2 : wr.ownsRow (w.heap.size + 3) 3 1 v2 lo.length (i64s lo)
  kb3 : w.heap.size + 3 ≤ kb
  kb1 : v1.ownBlock ≠ some kb
  kb2 : v2.ownBlock ≠ some kb
  dis : ∀ g, v1.ownBlock = some g → v2.ownBlock ≠ some g
  below : Below w.heap.size w wr

set_option maxRecDepth 100000 in
set_option maxHeartbeats 8000000 in
theorem tabClosing_any (PA TA : Option Addr) (pn pc tc N : Nat) (s : Sys) (x : Int) (w : World) (hs : s.Ok) (he : s.err = 0) (hps : PartsAt w w.heap.size PA pn pc s.parts) (hT : Ints w w.heap.size TA (N + 1) tc (tab s.parts N)) (hN4 : N ≤ 4000) (hN : x.tdiv s.unit = (N : Int)) (hcan : tabK s.parts N ≠ -1) :
    Calls Try.prog 45 #[.agg #[.int .i64 s.unit, .slice PA pn pc, .slice TA (N + 1) tc], .int .i64 x] w fun e w' => Below w.heap.size w w' ∧
      ∃ B m d B2 m2 d2 lb lo, e = .returned (.agg #[.slice B m d, .slice B2 m2 d2]) ∧ CloAt w' w'.heap.size B m d B2 m2 d2 lb lo ∧ Closed s N lb lo ∧ Fresh w.heap.size B ∧ Fresh w.heap.size B2 := by
  have hcapT := hT.nums.cap
  have hmaxT := hT.nums.max
  have hcapP := hps.cap
  have hmaxP := hps.max
  have HPL := Lib.hid hps.len
  have hu := hs.unit_bd
  obtain ⟨hu1, hu2⟩ := hu
  have hu0 : ¬ s.unit = 0 := by omega
  have hquo : IntKind.i64.wrap (x.tdiv s.unit) = (N : Int) := by rw [hN]; exact IntWalk.i64_in _ (by omega)
  have HP : Hid (∀ w', Below w.heap.size w w' → PartsAt w' w'.heap.size PA pn pc s.parts) := fun w' hb => hps.below hb (Nat.le_refl _) hb.size
  have HP0 : Hid (∀ w', Below w.heap.size w w' → PartsAt w' w.heap.size PA pn pc s.parts) := fun w' hb => hps.below hb (Nat.le_refl _) (Nat.le_refl _)
  have HT : Hid (∀ w', Below w.heap.size w w' → Ints w' w'.heap.size TA (N + 1) tc (tab s.parts N)) := fun w' hb => hT.below hb (Nat.le_refl _) hb.size
  have HOK := Lib.hid hs
  have HERR := Lib.hid he
  have HF := Lib.hid hs.fine
  have HCD := Lib.hid (codes_big hs.fine (K := N + 1) (by omega))
  rw [Nat.add_sub_cancel] at HCD
  have HST := Lib.hid (Built.start (s := s) hcan)
  obtain ⟨i0, hi0, hz0, hz1, hz2⟩ := info_parts info_int
  have HI0 := Lib.hid hi0
  have HZ0 := Lib.hid hz0
  have HZ1 := Lib.hid hz1
  have HZ2 := Lib.hid hz2
  clear hs he hps hT hN hcan hi0 hz0 hz1 hz2
  go_enter Try.func45, Try.ntmps45
  go_wp2
  go_loopw [6] (fun i wr => ∃ (k kb : Nat) (v1 v2 : Value) (lb lo : List Int), i = .pointer (some ⟨kb, 0, none⟩) ∧ Going w s N #[.int .i64 s.unit, .slice PA pn pc, .slice TA (N + 1) tc] wr k kb v1 v2 lb lo) (fun i wr => boxOf i wr)
  case atStart =>
    refine ⟨N, _, _, _, [], [], rfl, HST.out, Nat.le_refl _, ?_, ?_, ?_, ?_, World.ownsRow_nil _ _ _ _, World.ownsRow_nil _ _ _ _, ?_, ?_, ?_, ?_, ?_⟩
    · exact (by repeat (first | with_reducible assumption | with_reducible refine Bk.set3z ?_ _ _ _ | with_reducible refine Bk.other ?_ (by first | omega | (simp <;> omega)) _ | with_reducible exact Bk.at_ (by first | (simp; done) | omega) | with_reducible refine Bk.alloc ?_ _ | with_reducible refine Bk.drew ?_ | with_reducible refine Bk.drewN ?_ _ | with_reducible refine Bk.step (by with_reducible assumption) ?_ (by first | omega | (simp <;> omega))))
    · exact (by repeat (first | with_reducible assumption | with_reducible refine Bk.set3z ?_ _ _ _ | with_reducible refine Bk.other ?_ (by first | omega | (simp <;> omega)) _ | with_reducible exact Bk.at_ (by first | (simp; done) | omega) | with_reducible refine Bk.alloc ?_ _ | with_reducible refine Bk.drew ?_ | with_reducible refine Bk.drewN ?_ _ | with_reducible refine Bk.step (by with_reducible assumption) ?_ (by first | omega | (simp <;> omega))))
    · exact (by repeat (first | with_reducible assumption | with_reducible refine Bk.set3z ?_ _ _ _ | with_reducible refine Bk.other ?_ (by first | omega | (simp <;> omega)) _ | with_reducible exact Bk.at_ (by first | (simp; done) | omega) | with_reducible refine Bk.alloc ?_ _ | with_reducible refine Bk.drew ?_ | with_reducible refine Bk.drewN ?_ _ | with_reducible refine Bk.step (by with_reducible assumption) ?_ (by first | omega | (simp <;> omega))))
    · exact (by repeat (first | with_reducible assumption | with_reducible refine Bk.set3z ?_ _ _ _ | with_reducible refine Bk.other ?_ (by first | omega | (simp <;> omega)) _ | with_reducible exact Bk.at_ (by first | (simp; done) | omega) | with_reducible refine Bk.alloc ?_ _ | with_reducible refine Bk.drew ?_ | with_reducible refine Bk.drewN ?_ _ | with_reducible refine Bk.step (by with_reducible assumption) ?_ (by first | omega | (simp <;> omega))))
    · simp
    · simp [Value.ownBlock]
    · simp [Value.ownBlock]
    · simp [Value.ownBlock]
    · exact (by repeat (first | with_reducible exact Below.refl _ _ | with_reducible assumption | with_reducible refine Below.drew ?_ | with_reducible refine Below.drewN ?_ _ | with_reducible refine Below.alloc2 ?_ _ | with_reducible refine Below.alloc ?_ (by first | omega | (simp <;> omega)) _ | with_reducible refine Below.setCell ?_ (by first | omega | (simp <;> omega)) _ | with_reducible refine Below.step2 (by with_reducible assumption) ?_ | with_reducible refine Below.step (by with_reducible assumption) ?_ (by first | omega | (simp <;> omega))))
  case round =>
    obtain ⟨k, kb, v1, v2, lb, lo, rfl, hgo⟩ := hrel
    obtain ⟨wo, rfl⟩ : ∃ x, x = wr := ⟨_, rfl⟩
    have HGO := Lib.hid hgo
    have ow := hgo.below.size
    have okb := hgo.box.lt
    have og := hgo.tab.lt
    have oo := hgo.out.lt
    have ok3 := hgo.kb3
    have okN := hgo.kN
    obtain ⟨k0, kf0⟩ := hgo.box.one
    obtain ⟨⟨t0, t1, t2⟩, tf0, tf1, tf2⟩ := hgo.tab.three
    by_cases hk : k = 0
    · subst hk
      obtain ⟨A1, c1, rfl, -⟩ := Ints.of_own hgo.own1
      obtain ⟨A2, c2, rfl, -⟩ := Ints.of_own hgo.own2
      obtain ⟨⟨o0, o1⟩, of0, of1⟩ := hgo.out.pair2
      have hfw := hgo.built.few
      have HOWN1 := Lib.hid hgo.own1
      have HOWN2 := Lib.hid hgo.own2
      have HOUT := Lib.hid hgo.out
      have HRES := Lib.hid hgo.res
      have HN1 : Hid (some (w.heap.size + 2) ≠ (Value.slice A1 lb.length c1).ownBlock) := fun e => by have := (HOWN1.out.lt _ e.symm).1; omega
      have HN2 : Hid (some (w.heap.size + 2) ≠ (Value.slice A2 lo.length c2).ownBlock) := fun e => by have := (HOWN2.out.lt _ e.symm).1; omega
      have HM1 : Hid (some (w.heap.size + 1) ≠ (Value.slice A1 lb.length c1).ownBlock) := fun e => by have := (HOWN1.out.lt _ e.symm).1; omega
      have HM2 : Hid (some (w.heap.size + 1) ≠ (Value.slice A2 lo.length c2).ownBlock) := fun e => by have := (HOWN2.out.lt _ e.symm).1; omega
      clear hgo
      go_wp2_with (first
        | (have HX := HG1; go_at_call 58; refine (sort_any HO2.out (by omega)).mono ?_; rintro e w6 ⟨rfl, l2, hp2, hs2, hown2, hg2⟩; have HP2 := Lib.hid hp2; have HS2 := Lib.hid hs2; have HR2 := Lib.hid hown2; have HG2 := Lib.hid hg2; have HOUT2 := Lib.hid (HOUT1.out.grown hg2 HN2.out); have HRES2 := Lib.hid (HRES1.out.grown hg2 HM2.out); obtain ⟨⟨y0, y1⟩, yf0, yf1⟩ := HOUT2.out.pair2; obtain ⟨⟨z0, z1⟩, zf0, zf1⟩ := HRES2.out.pair2; have oz := HRES2.out.lt; have oy := HOUT2.out.lt; have HR1b := Lib.hid (own_grown HR1.out hg2 (fun g h1 h2 => HGO.out.dis g h1 h2)); clear hp2 hs2 hown2 hg2 HX)
        | (go_at_call 58; refine (sort_any HOWN1.out (by omega)).mono ?_; rintro e w5 ⟨rfl, l1, hp1, hs1, hown1, hg1⟩; have HP1 := Lib.hid hp1; have HS1 := Lib.hid hs1; have HR1 := Lib.hid hown1; have HG1 := Lib.hid hg1; have HOUT1 := Lib.hid (HOUT.out.grown hg1 HN1.out); have HRES1 := Lib.hid (HRES.out.grown hg1 HM1.out); have HO2 := Lib.hid (own_grown HOWN2.out hg1 (fun g h1 h2 => HGO.out.dis g h2 h1)); obtain ⟨⟨x0, x1⟩, xf0, xf1⟩ := HOUT1.out.pair2; clear hp1 hs1 hown1 hg1))
      have hb6 : Below w.heap.size w w6 := (HGO.out.below.grown HG1.out (by omega) (fun g hg => by have := (HOWN1.out.lt _ hg).1; omega)).grown HG2.out (by have := HG1.out.size; omega) (fun g hg => by have := (HOWN2.out.lt _ hg).1; omega)
      refine bodyPost_ret (v := .agg #[.slice A1 lb.length c1, .slice A2 lo.length c2]) (by simp [results, Try.results45, go_sem, z0, z1]) rfl ⟨(by repeat (first | with_reducible exact Below.refl _ _ | with_reducible assumption | with_reducible refine Below.drew ?_ | with_reducible refine Below.drewN ?_ _ | with_reducible refine Below.alloc2 ?_ _ | with_reducible refine Below.alloc ?_ (by first | omega | (simp <;> omega)) _ | with_reducible refine Below.setCell ?_ (by first | omega | (simp <;> omega)) _ | with_reducible refine Below.step2 (by with_reducible assumption) ?_ | with_reducible refine Below.step (by with_reducible assumption) ?_ (by first | omega | (simp <;> omega)))), _, _, _, _, _, _, l1, l2, rfl, ⟨?_, ?_⟩, HGO.out.built.done HERR.out hN4 HP1.out HP2.out HS1.out HS2.out, fun a e => ?_, fun a e => ?_⟩
      · exact Ints.own (own_set (own_set HR1b.out _ HM1.out) _ HM1.out)
      · exact Ints.own (own_set (own_set HR2.out _ HM2.out) _ HM2.out)
      · subst e
        have := (HR1b.out.lt a.block rfl).1
        omega
      · subst e
        have := (HR2.out.lt a.block rfl).1
        omega
    · have hkz : (0 : Int) < (k : Int) := by omega
      have HEX := Lib.hid (fits_some HF.out (by omega) hgo.kN hgo.built.some_)
      have HIX : Hid (∀ W, Below wo.heap.size wo W → Calls Try.prog 55 #[.slice PA pn pc, .func (.func 56) #[] #[.pointer (some ⟨w.heap.size, 0, none⟩), .pointer (some ⟨kb, 0, none⟩)]] W fun e w' => Below W.heap.size W w' ∧ ∃ (j : Nat) (q : Part), e = .returned (.int .i64 (j : Int)) ∧ s.parts[j]? = some q ∧ codeAt (tab s.parts N) q k = (tab s.parts N).getD k 0) := Lib.hid (fun W hW => by
        have hb := HGO.out.below
        have hbW : Below w.heap.size w W := (by repeat (first | with_reducible exact Below.refl _ _ | with_reducible assumption | with_reducible refine Below.drew ?_ | with_reducible refine Below.drewN ?_ _ | with_reducible refine Below.alloc2 ?_ _ | with_reducible refine Below.alloc ?_ (by first | omega | (simp <;> omega)) _ | with_reducible refine Below.setCell ?_ (by first | omega | (simp <;> omega)) _ | with_reducible refine Below.step2 (by with_reducible assumption) ?_ | with_reducible refine Below.step (by with_reducible assumption) ?_ (by first | omega | (simp <;> omega))))
        refine index_parts PA TA pn pc (N + 1) tc s.unit (tab s.parts N) s.parts k w.heap.size kb W (HP.out _ hbW) HF.out (HGO.out.tab.below hW og) (HGO.out.box.below hW okb) (HT.out _ hbW) (by omega) (by omega) HCD.out ?_
        rw [tab_entry okN]
        exact HEX.out)
      clear hgo
      go_upto_region 5 with (go_at_call 55; refine (HIX.out _ (by exact (by repeat (first | with_reducible exact Below.refl _ _ | with_reducible assumption | with_reducible refine Below.drew ?_ | with_reducible refine Below.drewN ?_ _ | with_reducible refine Below.alloc2 ?_ _ | with_reducible refine Below.alloc ?_ (by first | omega | (simp <;> omega)) _ | with_reducible refine Below.setCell ?_ (by first | omega | (simp <;> omega)) _ | with_reducible refine Below.step2 (by with_reducible assumption) ?_ | with_reducible refine Below.step (by with_reducible assumption) ?_ (by first | omega | (simp <;> omega)))))).mono ?_; rintro e w2 ⟨hb2, j, q, rfl, hj, hq⟩)
      have hb0 := HGO.out.below
      have hwo2 : Below wo.heap.size wo w2 := (by repeat (first | with_reducible exact Below.refl _ _ | with_reducible assumption | with_reducible refine Below.drew ?_ | with_reducible refine Below.drewN ?_ _ | with_reducible refine Below.alloc2 ?_ _ | with_reducible refine Below.alloc ?_ (by first | omega | (simp <;> omega)) _ | with_reducible refine Below.setCell ?_ (by first | omega | (simp <;> omega)) _ | with_reducible refine Below.step2 (by with_reducible assumption) ?_ | with_reducible refine Below.step (by with_reducible assumption) ?_ (by first | omega | (simp <;> omega))))
      have hw2 : Below w.heap.size w w2 := (by repeat (first | with_reducible exact Below.refl _ _ | with_reducible assumption | with_reducible refine Below.drew ?_ | with_reducible refine Below.drewN ?_ _ | with_reducible refine Below.alloc2 ?_ _ | with_reducible refine Below.alloc ?_ (by first | omega | (simp <;> omega)) _ | with_reducible refine Below.setCell ?_ (by first | omega | (simp <;> omega)) _ | with_reducible refine Below.step2 (by with_reducible assumption) ?_ | with_reducible refine Below.step (by with_reducible assumption) ?_ (by first | omega | (simp <;> omega))))
      have HW2 := Lib.hid hw2
      have hqm := List.mem_of_getElem? hj
      have HQM := Lib.hid hqm
      have hjl : j < pn := by rw [← HPL.out]; exact (List.getElem?_eq_some_iff.1 hj).1
      have hjz : (j : Int) < (pn : Int) := by omega
      obtain ⟨pb, po, q', rfl, hpb, hq', d0, d1, d2, d3⟩ := (HP0.out _ hw2).at_ hjl
      obtain rfl : q = q' := Option.some.inj (hj.symm.trans hq')
      rw [tab_entry okN] at hq
      have HQ := Lib.hid hq
      obtain ⟨f1, f2, -⟩ := fits_of (HF.out q hqm) okN HGO.out.built.some_ hq
      have hfu := (HF.out q hqm).1
      have hfew := HGO.out.built.few
      have hsub : IntKind.i64.wrap ((k : Int) - q.units) = ((k - q.units.toNat : Nat) : Int) := by rw [IntWalk.i64_in _ (by omega)]; omega
      obtain ⟨A1, c1, rfl, -⟩ := Ints.of_own HGO.out.own1
      obtain ⟨A2, c2, rfl, -⟩ := Ints.of_own HGO.out.own2
      have HO1 := Lib.hid (own_step HGO.out.own1 hwo2)
      have HO2 := Lib.hid (own_step HGO.out.own2 hwo2)
      have HTAB := Lib.hid (HGO.out.tab.below hwo2 og)
      have HRES := Lib.hid (HGO.out.res.below hwo2 HGO.out.res.lt)
      have hout := HGO.out.out.below hwo2 oo
      have HOUT := Lib.hid hout
      have hbox := HGO.out.box.below hwo2 okb
      have HBOX := Lib.hid hbox
      have ow2 := hwo2.size
      have oo2 : w.heap.size + 2 < w2.heap.size := by omega
      have oo3 : w.heap.size + 1 + 1 < w2.heap.size := by omega
      have oo4 : w.heap.size + 2 < w2.heap.size + 1 := by omega
      have oo5 : w.heap.size + 1 + 1 < w2.heap.size + 1 := by omega
      have ok4 : kb < w2.heap.size := by omega
      have ok5 : kb < w2.heap.size + 1 := by omega
      obtain ⟨⟨e0, e1⟩, ef0, ef1⟩ := hout.pair2
      obtain ⟨g0, gf0⟩ := hbox.one
      obtain ⟨⟨h0, h1, h2⟩, -⟩ := HTAB.out.three
      have hf1 := HGO.out.kb1
      have hf2 := HGO.out.kb2
      have HN1 : Hid (∀ g, (Value.slice A1 lb.length c1).ownBlock = some g → w.heap.size + 3 ≤ g ∧ g < w2.heap.size) := fun g hg => HO1.out.lt g hg
      have HN2 : Hid (∀ g, (Value.slice A2 lo.length c2).ownBlock = some g → w.heap.size + 3 ≤ g ∧ g < w2.heap.size) := fun g hg => HO2.out.lt g hg
      have HK1 := Lib.hid hf1
      have HK2 := Lib.hid hf2
      clear hb2 hb0 hwo2 hw2 hqm hjl hj hq' hq hout hbox hf1 hf2 t0 t1 t2 tf0 tf1 tf2 k0 kf0 hk
      by_cases hqb : q.board = true
      · rw [hqb] at d3
        go_wp2_with ((at_builtin; refine wpList_append_own_at _ rfl _ _ _ rfl (w.heap.size + 3) 3 i0 _ 1 8 Try.underlying22 HI0.out HZ0.out HZ1.out HZ2.out rfl (by omega) (.slice A2 lo.length c2) _ _ rfl ((HO2.out.alloc _).alloc _) ⟨w2.heap.size + 1, 0, none⟩ 1 1 [.int .i64 q.len] rfl rfl (World.news_of_block (cs := #[.int .i64 q.len]) (t := 3) (fr := (0, 0)) (by exact Bk.at_ (by simp))) (i64s_one [q.len]) (by unfold maxLen; omega) (by omega) (by simp; omega) ?_; intro va w3 hown3 hg3 _ hob; obtain ⟨A3, c3, rfl, -, -⟩ := Sl.of_own hown3; have HOWA := Lib.hid hown3; have HGA := Lib.hid hg3; have HOB := Lib.hid hob; have HTAB3 := Lib.hid (((HTAB.out.alloc _).alloc _).grown hg3 (fun e => by have := HN2.out _ e.symm; omega)); have HRES3 := Lib.hid (((HRES.out.alloc _).alloc _).grown hg3 (fun e => by have := HN2.out _ e.symm; omega)); have HOUT3 := Lib.hid (((HOUT.out.alloc _).alloc _).grown hg3 (fun e => by have := HN2.out _ e.symm; omega)); have HBOX3 := Lib.hid (((HBOX.out.alloc _).alloc _).grown hg3 (fun e => HK2.out e.symm)); have HPT3 := Lib.hid (((Bk.alloc_ w2 80 _).alloc _).grown hg3 (fun e => by have := HN2.out _ e.symm; omega)); obtain ⟨⟨m0, m1⟩, mf0, mf1⟩ := HOUT3.out.pair2; obtain ⟨n0, nf0⟩ := HBOX3.out.one; obtain ⟨-, p1, -⟩ := HPT3.out.four; have os3 := hg3.size; (try simp at os3); clear hown3 hg3 hob))
        go_roundw
        case rel =>
          have hg3 := HGA.out
          have hown3 := HOWA.out
          have hw2 := HW2.out
          have hb3 : Below w.heap.size w w3 := ((hw2.alloc hw2.size _).alloc (by have := hw2.size; simp; omega) _).grown hg3 (by have := hw2.size; simp; omega) (fun g hg => by have := HN2.out g hg; omega)
          have hlt3 := hown3.lt
          have ho : w3.ownsRow (w.heap.size + 3) 3 1 (.slice A1 lb.length c1) lb.length (i64s lb) := own_grown ((HO1.out.alloc _).alloc _) hg3 (fun g h1 h2 => HGO.out.dis g h1 h2)
          have hlk := ho.lt
          have hkb3 : some kb ≠ (Value.slice A3 (lo.length + 1) c3).ownBlock := by
            rcases HOB.out with e | e <;> rw [e]
            · exact fun e => HK2.out e.symm
            · intro h
              simp at h
              omega
          have hout4 : Bk (w3.setCell ⟨w.heap.size + 2, 1, none⟩ (.slice A3 (lo.length + 1) c3)) (w.heap.size + 2) 26 #[.slice A1 lb.length c1, .slice A3 (lo.length + 1) c3] := by
            have := HOUT3.out.set_ 1 (.slice A3 (lo.length + 1) c3)
            simpa using this
          have htab3 := HTAB3.out
          have hres3 := HRES3.out
          refine ⟨k - q.units.toNat, _, (.slice A1 lb.length c1), (.slice A3 (lo.length + 1) c3), lb, lo ++ [q.len], rfl, ⟨HGO.out.built.brd HOK.out HQM.out hqb okN HQ.out, by omega, ?_, ?_, ?_, ?_, ?_, ?_, ?_, ?_, ?_, ?_, ?_⟩⟩
          · exact (by repeat (first | with_reducible assumption | with_reducible refine Bk.set3z ?_ _ _ _ | with_reducible refine Bk.other ?_ (by first | omega | (simp <;> omega)) _ | with_reducible exact Bk.at_ (by first | (simp; done) | omega) | with_reducible refine Bk.alloc ?_ _ | with_reducible refine Bk.drew ?_ | with_reducible refine Bk.drewN ?_ _ | with_reducible refine Bk.step (by with_reducible assumption) ?_ (by first | omega | (simp <;> omega))))
          · exact (by repeat (first | with_reducible assumption | with_reducible refine Bk.set3z ?_ _ _ _ | with_reducible refine Bk.other ?_ (by first | omega | (simp <;> omega)) _ | with_reducible exact Bk.at_ (by first | (simp; done) | omega) | with_reducible refine Bk.alloc ?_ _ | with_reducible refine Bk.drew ?_ | with_reducible refine Bk.drewN ?_ _ | with_reducible refine Bk.step (by with_reducible assumption) ?_ (by first | omega | (simp <;> omega))))
          · exact (hout4.other (by show w.heap.size + 2 ≠ kb; omega) _).alloc _
          · exact (by repeat (first | with_reducible assumption | with_reducible refine Bk.set3z ?_ _ _ _ | with_reducible refine Bk.other ?_ (by first | omega | (simp <;> omega)) _ | with_reducible exact Bk.at_ (by first | (simp; done) | omega) | with_reducible refine Bk.alloc ?_ _ | with_reducible refine Bk.drew ?_ | with_reducible refine Bk.drewN ?_ _ | with_reducible refine Bk.step (by with_reducible assumption) ?_ (by first | omega | (simp <;> omega))))
          · exact (own_set (own_set ho _ (fun e => by have := hlk _ e.symm; omega)) _ (fun e => HK1.out e.symm)).alloc _
          · rw [List.length_append, i64s_append]
            exact (own_set (own_set hown3 _ (fun e => by have := hlt3 _ e.symm; omega)) _ hkb3).alloc _
          · show w.heap.size + 3 ≤ w3.heap.size
            omega
          · exact fun e => by have := hlk _ e; omega
          · exact fun e => by have := hlt3 _ e; omega
          · intro g h1 h2
            rcases HOB.out with e | e
            · rw [e] at h2
              exact HGO.out.dis g h1 h2
            · rw [e] at h2
              have := HN1.out g h1
              simp at h2
              omega
          · exact (by repeat (first | with_reducible exact Below.refl _ _ | with_reducible assumption | with_reducible refine Below.drew ?_ | with_reducible refine Below.drewN ?_ _ | with_reducible refine Below.alloc2 ?_ _ | with_reducible refine Below.alloc ?_ (by first | omega | (simp <;> omega)) _ | with_reducible refine Below.setCell ?_ (by first | omega | (simp <;> omega)) _ | with_reducible refine Below.step2 (by with_reducible assumption) ?_ | with_reducible refine Below.step (by with_reducible assumption) ?_ (by first | omega | (simp <;> omega))))
        case measure =>
          rw [boxOf_eq HGO.out.box]
          have hb4 : Bk (((w3.setCell ⟨w.heap.size + 1 + 1, 1, none⟩ (.slice A3 (lo.length + 1) c3)).setCell ⟨kb, 0, none⟩ (.int .i64 ((k - q.units.toNat : Nat) : Int))).alloc (.cells #[.int .i64 ((k - q.units.toNat : Nat) : Int)] 3)) w3.heap.size 3 #[.int .i64 ((k - q.units.toNat : Nat) : Int)] := Bk.at_ (by simp)
          have hm := boxOf_eq hb4
          exact Nat.lt_of_le_of_lt (Nat.le_of_eq hm) (by omega)
      · have hqb : q.board = false := by simpa using hqb
        rw [hqb] at d3
        go_wp2_with ((at_builtin; refine wpList_append_own_at _ rfl _ _ _ rfl (w.heap.size + 3) 3 i0 _ 1 8 Try.underlying22 HI0.out HZ0.out HZ1.out HZ2.out rfl (by omega) (.slice A1 lb.length c1) _ _ rfl ((HO1.out.alloc _).alloc _) ⟨w2.heap.size + 1, 0, none⟩ 1 1 [.int .i64 q.len] rfl rfl (World.news_of_block (cs := #[.int .i64 q.len]) (t := 3) (fr := (0, 0)) (by exact Bk.at_ (by simp))) (i64s_one [q.len]) (by unfold maxLen; omega) (by omega) (by simp; omega) ?_; intro va w3 hown3 hg3 _ hob; obtain ⟨A3, c3, rfl, -, -⟩ := Sl.of_own hown3; have HOWA := Lib.hid hown3; have HGA := Lib.hid hg3; have HOB := Lib.hid hob; have HTAB3 := Lib.hid (((HTAB.out.alloc _).alloc _).grown hg3 (fun e => by have := HN1.out _ e.symm; omega)); have HRES3 := Lib.hid (((HRES.out.alloc _).alloc _).grown hg3 (fun e => by have := HN1.out _ e.symm; omega)); have HOUT3 := Lib.hid (((HOUT.out.alloc _).alloc _).grown hg3 (fun e => by have := HN1.out _ e.symm; omega)); have HBOX3 := Lib.hid (((HBOX.out.alloc _).alloc _).grown hg3 (fun e => HK1.out e.symm)); have HPT3 := Lib.hid (((Bk.alloc_ w2 80 _).alloc _).grown hg3 (fun e => by have := HN1.out _ e.symm; omega)); obtain ⟨⟨m0, m1⟩, mf0, mf1⟩ := HOUT3.out.pair2; obtain ⟨n0, nf0⟩ := HBOX3.out.one; obtain ⟨-, p1, -⟩ := HPT3.out.four; have os3 := hg3.size; (try simp at os3); clear hown3 hg3 hob))
        go_roundw
        case rel =>
          have hg3 := HGA.out
          have hown3 := HOWA.out
          have hw2 := HW2.out
          have hb3 : Below w.heap.size w w3 := ((hw2.alloc hw2.size _).alloc (by have := hw2.size; simp; omega) _).grown hg3 (by have := hw2.size; simp; omega) (fun g hg => by have := HN1.out g hg; omega)
          have hlt3 := hown3.lt
          have ho : w3.ownsRow (w.heap.size + 3) 3 1 (.slice A2 lo.length c2) lo.length (i64s lo) := own_grown ((HO2.out.alloc _).alloc _) hg3 (fun g h1 h2 => HGO.out.dis g h2 h1)
          have hlk := ho.lt
          have hkb3 : some kb ≠ (Value.slice A3 (lb.length + 1) c3).ownBlock := by
            rcases HOB.out with e | e <;> rw [e]
            · exact fun e => HK1.out e.symm
            · intro h
              simp at h
              omega
          have hout4 : Bk (w3.setCell ⟨w.heap.size + 2, 0, none⟩ (.slice A3 (lb.length + 1) c3)) (w.heap.size + 2) 26 #[.slice A3 (lb.length + 1) c3, .slice A2 lo.length c2] := by
            have := HOUT3.out.set_ 0 (.slice A3 (lb.length + 1) c3)
            simpa using this
          have htab3 := HTAB3.out
          have hres3 := HRES3.out
          refine ⟨k - q.units.toNat, _, (.slice A3 (lb.length + 1) c3), (.slice A2 lo.length c2), lb ++ [q.len], lo, rfl, ⟨HGO.out.built.bay HOK.out HQM.out hqb okN HQ.out, by omega, ?_, ?_, ?_, ?_, ?_, ?_, ?_, ?_, ?_, ?_, ?_⟩⟩
          · exact (by repeat (first | with_reducible assumption | with_reducible refine Bk.set3z ?_ _ _ _ | with_reducible refine Bk.other ?_ (by first | omega | (simp <;> omega)) _ | with_reducible exact Bk.at_ (by first | (simp; done) | omega) | with_reducible refine Bk.alloc ?_ _ | with_reducible refine Bk.drew ?_ | with_reducible refine Bk.drewN ?_ _ | with_reducible refine Bk.step (by with_reducible assumption) ?_ (by first | omega | (simp <;> omega))))
          · exact (by repeat (first | with_reducible assumption | with_reducible refine Bk.set3z ?_ _ _ _ | with_reducible refine Bk.other ?_ (by first | omega | (simp <;> omega)) _ | with_reducible exact Bk.at_ (by first | (simp; done) | omega) | with_reducible refine Bk.alloc ?_ _ | with_reducible refine Bk.drew ?_ | with_reducible refine Bk.drewN ?_ _ | with_reducible refine Bk.step (by with_reducible assumption) ?_ (by first | omega | (simp <;> omega))))
          · exact (hout4.other (by show w.heap.size + 2 ≠ kb; omega) _).alloc _
          · exact (by repeat (first | with_reducible assumption | with_reducible refine Bk.set3z ?_ _ _ _ | with_reducible refine Bk.other ?_ (by first | omega | (simp <;> omega)) _ | with_reducible exact Bk.at_ (by first | (simp; done) | omega) | with_reducible refine Bk.alloc ?_ _ | with_reducible refine Bk.drew ?_ | with_reducible refine Bk.drewN ?_ _ | with_reducible refine Bk.step (by with_reducible assumption) ?_ (by first | omega | (simp <;> omega))))
          · rw [List.length_append, i64s_append]
            exact (own_set (own_set hown3 _ (fun e => by have := hlt3 _ e.symm; omega)) _ hkb3).alloc _
          · exact (own_set (own_set ho _ (fun e => by have := hlk _ e.symm; omega)) _ (fun e => HK2.out e.symm)).alloc _
          · show w.heap.size + 3 ≤ w3.heap.size
            omega
          · exact fun e => by have := hlt3 _ e; omega
          · exact fun e => by have := hlk _ e; omega
          · intro g h1 h2
            rcases HOB.out with e | e
            · rw [e] at h1
              exact HGO.out.dis g h1 h2
            · rw [e] at h1
              have := HN2.out g h2
              simp at h1
              omega
          · exact (by repeat (first | with_reducible exact Below.refl _ _ | with_reducible assumption | with_reducible refine Below.drew ?_ | with_reducible refine Below.drewN ?_ _ | with_reducible refine Below.alloc2 ?_ _ | with_reducible refine Below.alloc ?_ (by first | omega | (simp <;> omega)) _ | with_reducible refine Below.setCell ?_ (by first | omega | (simp <;> omega)) _ | with_reducible refine Below.step2 (by with_reducible assumption) ?_ | with_reducible refine Below.step (by with_reducible assumption) ?_ (by first | omega | (simp <;> omega))))
        case measure =>
          rw [boxOf_eq HGO.out.box]
          have hb4 : Bk (((w3.setCell ⟨w.heap.size + 1 + 1, 0, none⟩ (.slice A3 (lb.length + 1) c3)).setCell ⟨kb, 0, none⟩ (.int .i64 ((k - q.units.toNat : Nat) : Int))).alloc (.cells #[.int .i64 ((k - q.units.toNat : Nat) : Int)] 3)) w3.heap.size 3 #[.int .i64 ((k - q.units.toNat : Nat) : Int)] := Bk.at_ (by simp)
          have hm := boxOf_eq hb4
          exact Nat.lt_of_le_of_lt (Nat.le_of_eq hm) (by omega)

end Go.Proofs.Ytkcbfkflkepfeaa
