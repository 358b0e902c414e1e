/- Chapter 6, walks: Jacks. -/
import Derived.Test.YtgljncfijcamhaaGreatDoorTopsB6
namespace Go.Proofs.YtgljncfijcamhaaGreatDoor
open Go.RowKit

theorem ext_step {D so : Int} {hs : List Int} {k : Nat} {z : Int} (hx : (tops so hs)[k]? = some z) : exts D so (hs.take (k + 1)) = exts D so (hs.take k) ++ [D - z] := by
  rw [tops, List.getElem?_map] at hx
  cases hh : hs[k]? with
  | none => rw [hh] at hx; simp at hx
  | some y =>
    rw [hh] at hx
    simp only [Option.map_some, Option.some.injEq] at hx
    rw [exts_step hh, ← hx, show D - y - so = D - (y + so) by omega]
set_option maxHeartbeats 4000000 in
theorem jacks_err (f : Int) (A A2 T : Option Addr) (n c m c2 k0 ct : Nat) (lo hi so D X : Int) (w : World) (hx : X ≠ 0)
    (ct' : ∀ w', Below w.heap.size w w' → Calls Tryz.prog 55 #[.agg #[.int .i64 f, .slice A n c, .slice A2 m c2], .slice T k0 ct, .agg #[.int .i64 lo, .int .i64 hi, .int .i64 so]] w' fun e w'' => Below w'.heap.size w' w'' ∧ e = .returned (.tuple #[.slice none 0 0, .int .i64 X])) :
    Calls Tryz.prog 22 #[.agg #[.int .i64 f, .slice A n c, .slice A2 m c2], .slice T k0 ct, .agg #[.int .i64 lo, .int .i64 hi, .int .i64 so], .int .i64 D] w fun e w' => Below w.heap.size w w' ∧ e = .returned (.tuple #[.slice none 0 0, .int .i64 X]) := by
  have C1 := Lib.hid ct'
  have hxb : (X != 0) = true := by simpa using hx
  clear ct' hx
  go_enter Tryz.func22, Tryz.ntmps22
  go_wp2_with (first
        | (go_at_call 55; with_reducible refine (C1.out _ ?_).mono ?_; (focus (exact (by repeat (first | with_reducible exact Below.refl _ _ | with_reducible assumption | with_reducible refine Below.drew ?_ | with_reducible refine Below.drewN ?_ _ | with_reducible refine Below.alloc2 ?_ _ | with_reducible refine Below.alloc ?_ (by first | omega | (simp <;> omega)) _ | with_reducible refine Below.setCell ?_ (by first | omega | (simp <;> omega)) _ | with_reducible refine Below.step2 (by with_reducible assumption) ?_ | with_reducible refine Below.step (by with_reducible assumption) ?_ (by first | omega | (simp <;> omega)))))); rintro e w1 ⟨hb1, rfl⟩; have kg : Bk w1 w.heap.size 24 #[.int .i64 f, .slice A n c, .slice A2 m c2] := (by repeat (first | with_reducible assumption | with_reducible exact Bk.at_ (by first | (simp; done) | omega) | with_reducible refine Bk.alloc ?_ _ | with_reducible refine Bk.drew ?_ | with_reducible refine Bk.drewN ?_ _ | with_reducible refine Bk.step (by with_reducible assumption) ?_ (by first | omega | (simp <;> omega)))); have kj : Bk w1 (w.heap.size + 1) 52 #[.int .i64 lo, .int .i64 hi, .int .i64 so] := (by repeat (first | with_reducible assumption | with_reducible exact Bk.at_ (by first | (simp; done) | omega) | with_reducible refine Bk.alloc ?_ _ | with_reducible refine Bk.drew ?_ | with_reducible refine Bk.drewN ?_ _ | with_reducible refine Bk.step (by with_reducible assumption) ?_ (by first | omega | (simp <;> omega)))); obtain ⟨⟨g0, g1, g2⟩, -⟩ := kg.three; obtain ⟨⟨j0, j1, j2⟩, -⟩ := kj.three; have oz1 := hb1.size; (try simp at oz1); have hbx : Below w.heap.size w w1 := (by repeat (first | with_reducible exact Below.refl _ _ | with_reducible assumption | with_reducible refine Below.drew ?_ | with_reducible refine Below.drewN ?_ _ | with_reducible refine Below.alloc2 ?_ _ | with_reducible refine Below.alloc ?_ (by first | omega | (simp <;> omega)) _ | with_reducible refine Below.setCell ?_ (by first | omega | (simp <;> omega)) _ | with_reducible refine Below.step2 (by with_reducible assumption) ?_ | with_reducible refine Below.step (by with_reducible assumption) ?_ (by first | omega | (simp <;> omega))))))
  refine bodyPost_ret (results_tmp2 rfl _ _ _) rfl ?_
  exact ⟨(by repeat (first | with_reducible exact Below.refl _ _ | with_reducible assumption | with_reducible refine Below.drew ?_ | with_reducible refine Below.drewN ?_ _ | with_reducible refine Below.alloc2 ?_ _ | with_reducible refine Below.alloc ?_ (by first | omega | (simp <;> omega)) _ | with_reducible refine Below.setCell ?_ (by first | omega | (simp <;> omega)) _ | with_reducible refine Below.step2 (by with_reducible assumption) ?_ | with_reducible refine Below.step (by with_reducible assumption) ?_ (by first | omega | (simp <;> omega)))), rfl⟩

set_option maxHeartbeats 4000000 in
theorem datum_err (f : Int) (A A2 T : Option Addr) (n c m c2 k0 ct : Nat) (lo hi so X : Int) (w : World) (hx : X ≠ 0)
    (ct' : ∀ w', Below w.heap.size w w' → Calls Tryz.prog 55 #[.agg #[.int .i64 f, .slice A n c, .slice A2 m c2], .slice T k0 ct, .agg #[.int .i64 lo, .int .i64 hi, .int .i64 so]] w' fun e w'' => Below w'.heap.size w' w'' ∧ e = .returned (.tuple #[.slice none 0 0, .int .i64 X])) :
    Calls Tryz.prog 21 #[.agg #[.int .i64 f, .slice A n c, .slice A2 m c2], .slice T k0 ct, .agg #[.int .i64 lo, .int .i64 hi, .int .i64 so]] w fun e w' => Below w.heap.size w w' ∧ e = .returned (.tuple #[.int .i64 0, .int .i64 X]) := by
  have C1 := Lib.hid ct'
  have hxb : (X != 0) = true := by simpa using hx
  clear ct' hx
  go_enter Tryz.func21, Tryz.ntmps21
  go_wp2_with (first
        | (go_at_call 55; with_reducible refine (C1.out _ ?_).mono ?_; (focus (exact (by repeat (first | with_reducible exact Below.refl _ _ | with_reducible assumption | with_reducible refine Below.drew ?_ | with_reducible refine Below.drewN ?_ _ | with_reducible refine Below.alloc2 ?_ _ | with_reducible refine Below.alloc ?_ (by first | omega | (simp <;> omega)) _ | with_reducible refine Below.setCell ?_ (by first | omega | (simp <;> omega)) _ | with_reducible refine Below.step2 (by with_reducible assumption) ?_ | with_reducible refine Below.step (by with_reducible assumption) ?_ (by first | omega | (simp <;> omega)))))); rintro e w1 ⟨hb1, rfl⟩; have kg : Bk w1 w.heap.size 24 #[.int .i64 f, .slice A n c, .slice A2 m c2] := (by repeat (first | with_reducible assumption | with_reducible exact Bk.at_ (by first | (simp; done) | omega) | with_reducible refine Bk.alloc ?_ _ | with_reducible refine Bk.drew ?_ | with_reducible refine Bk.drewN ?_ _ | with_reducible refine Bk.step (by with_reducible assumption) ?_ (by first | omega | (simp <;> omega)))); have kj : Bk w1 (w.heap.size + 1) 52 #[.int .i64 lo, .int .i64 hi, .int .i64 so] := (by repeat (first | with_reducible assumption | with_reducible exact Bk.at_ (by first | (simp; done) | omega) | with_reducible refine Bk.alloc ?_ _ | with_reducible refine Bk.drew ?_ | with_reducible refine Bk.drewN ?_ _ | with_reducible refine Bk.step (by with_reducible assumption) ?_ (by first | omega | (simp <;> omega)))); obtain ⟨⟨g0, g1, g2⟩, -⟩ := kg.three; obtain ⟨⟨j0, j1, j2⟩, -⟩ := kj.three; have oz1 := hb1.size; (try simp at oz1); have hbx : Below w.heap.size w w1 := (by repeat (first | with_reducible exact Below.refl _ _ | with_reducible assumption | with_reducible refine Below.drew ?_ | with_reducible refine Below.drewN ?_ _ | with_reducible refine Below.alloc2 ?_ _ | with_reducible refine Below.alloc ?_ (by first | omega | (simp <;> omega)) _ | with_reducible refine Below.setCell ?_ (by first | omega | (simp <;> omega)) _ | with_reducible refine Below.step2 (by with_reducible assumption) ?_ | with_reducible refine Below.step (by with_reducible assumption) ?_ (by first | omega | (simp <;> omega))))))
  refine bodyPost_ret (results_tmp2 rfl _ _ _) rfl ?_
  exact ⟨(by repeat (first | with_reducible exact Below.refl _ _ | with_reducible assumption | with_reducible refine Below.drew ?_ | with_reducible refine Below.drewN ?_ _ | with_reducible refine Below.alloc2 ?_ _ | with_reducible refine Below.alloc ?_ (by first | omega | (simp <;> omega)) _ | with_reducible refine Below.setCell ?_ (by first | omega | (simp <;> omega)) _ | with_reducible refine Below.step2 (by with_reducible assumption) ?_ | with_reducible refine Below.step (by with_reducible assumption) ?_ (by first | omega | (simp <;> omega)))), rfl⟩

set_option maxRecDepth 100000 in
set_option maxHeartbeats 8000000 in
theorem jacks_some (f : Int) (A A2 T : Option Addr) (n c m c2 k0 ct : Nat) (lo hi so D : Int) (hs : List Int) (w : World) (hn : n ≤ 60) (hlen : hs.length = n) (bh : allIn (-1000000) 1000000 hs = true) (hso : 0 ≤ so ∧ so ≤ 10000)
    (ct' : ∀ w', Below w.heap.size w w' → Calls Tryz.prog 55 #[.agg #[.int .i64 f, .slice A n c, .slice A2 m c2], .slice T k0 ct, .agg #[.int .i64 lo, .int .i64 hi, .int .i64 so]] w' fun e w'' => Below w'.heap.size w' w'' ∧ ∃ A' c', e = .returned (.tuple #[.slice A' n c', .int .i64 0]) ∧ Nums w'' w''.heap.size A' n c' (tops so hs)) :
    Calls Tryz.prog 22 #[.agg #[.int .i64 f, .slice A n c, .slice A2 m c2], .slice T k0 ct, .agg #[.int .i64 lo, .int .i64 hi, .int .i64 so], .int .i64 D] w fun e w' => Below w.heap.size w w' ∧ ((inR (-2000000) 2000000 D = false ∧ e = .returned (.tuple #[.slice none 0 0, .int .i64 2])) ∨ (inR (-2000000) 2000000 D = true ∧ allIn lo hi (exts D so hs) = false ∧ e = .returned (.tuple #[.slice none 0 0, .int .i64 20])) ∨ (inR (-2000000) 2000000 D = true ∧ allIn lo hi (exts D so hs) = true ∧ ∃ A' c', e = .returned (.tuple #[.slice A' n c', .int .i64 0]) ∧ Nums w' w'.heap.size A' n c' (exts D so hs))) := by
  have C1 := Lib.hid ct'
  obtain ⟨bd, hbd⟩ : ∃ b, inR (-2000000) 2000000 D = b := ⟨_, rfl⟩
  obtain ⟨ba, hba⟩ : ∃ b, allIn lo hi (exts D so hs) = b := ⟨_, rfl⟩
  rw [hbd, hba]
  have E1 := Lib.hid hbd
  have HBA := Lib.hid hba
  have HBH := Lib.hid bh
  have HLEN := Lib.hid hlen
  clear ct' hba bh hlen
  cases bd
  · clear hbd
    go_enter Tryz.func22, Tryz.ntmps22
    go_wp2_with (first
        | (go_at_call 55; with_reducible refine (C1.out _ ?_).mono ?_; (focus (exact (by repeat (first | with_reducible exact Below.refl _ _ | with_reducible assumption | with_reducible refine Below.drew ?_ | with_reducible refine Below.drewN ?_ _ | with_reducible refine Below.alloc2 ?_ _ | with_reducible refine Below.alloc ?_ (by first | omega | (simp <;> omega)) _ | with_reducible refine Below.setCell ?_ (by first | omega | (simp <;> omega)) _ | with_reducible refine Below.step2 (by with_reducible assumption) ?_ | with_reducible refine Below.step (by with_reducible assumption) ?_ (by first | omega | (simp <;> omega)))))); rintro e wS ⟨hb1, A', c', rfl, hN⟩; have HNS := Lib.hid hN; have kg : Bk wS w.heap.size 24 #[.int .i64 f, .slice A n c, .slice A2 m c2] := (by repeat (first | with_reducible assumption | with_reducible exact Bk.at_ (by first | (simp; done) | omega) | with_reducible refine Bk.alloc ?_ _ | with_reducible refine Bk.drew ?_ | with_reducible refine Bk.drewN ?_ _ | with_reducible refine Bk.step (by with_reducible assumption) ?_ (by first | omega | (simp <;> omega)))); have kj : Bk wS (w.heap.size + 1) 52 #[.int .i64 lo, .int .i64 hi, .int .i64 so] := (by repeat (first | with_reducible assumption | with_reducible exact Bk.at_ (by first | (simp; done) | omega) | with_reducible refine Bk.alloc ?_ _ | with_reducible refine Bk.drew ?_ | with_reducible refine Bk.drewN ?_ _ | with_reducible refine Bk.step (by with_reducible assumption) ?_ (by first | omega | (simp <;> omega)))); obtain ⟨⟨g0, g1, g2⟩, -⟩ := kg.three; obtain ⟨⟨j0, j1, j2⟩, -⟩ := kj.three; have oz1 := hb1.size; (try simp at oz1); clear hN)
        | (go_at_call 56; with_reducible refine (areFrom_one (-2000000) 2000000 D _ _ ?_ ?_ _ E1.out).mono ?_; (focus (simp; done)); (focus (simp; done)); rintro e wD ⟨hb1, rfl⟩))
    refine bodyPost_ret (results_tmp2 rfl _ _ _) rfl ?_
    exact ⟨(by repeat (first | with_reducible exact Below.refl _ _ | with_reducible assumption | with_reducible refine Below.drew ?_ | with_reducible refine Below.drewN ?_ _ | with_reducible refine Below.alloc2 ?_ _ | with_reducible refine Below.alloc ?_ (by first | omega | (simp <;> omega)) _ | with_reducible refine Below.setCell ?_ (by first | omega | (simp <;> omega)) _ | with_reducible refine Below.step2 (by with_reducible assumption) ?_ | with_reducible refine Below.step (by with_reducible assumption) ?_ (by first | omega | (simp <;> omega)))), .inl ⟨trivial, rfl⟩⟩
  · obtain ⟨i0, hi0, hz0, hz1, hz2⟩ := info_parts info_int6
    have HI0 := Lib.hid hi0
    have HZ0 := Lib.hid hz0
    have HZ1 := Lib.hid hz1
    have HZ2 := Lib.hid hz2
    have hD : -2000000 ≤ D ∧ D ≤ 2000000 := by simpa [inR] using hbd
    clear hi0 hz0 hz1 hz2 hbd
    go_enter Tryz.func22, Tryz.ntmps22
    go_wp2_with (first
        | (go_at_call 55; with_reducible refine (C1.out _ ?_).mono ?_; (focus (exact (by repeat (first | with_reducible exact Below.refl _ _ | with_reducible assumption | with_reducible refine Below.drew ?_ | with_reducible refine Below.drewN ?_ _ | with_reducible refine Below.alloc2 ?_ _ | with_reducible refine Below.alloc ?_ (by first | omega | (simp <;> omega)) _ | with_reducible refine Below.setCell ?_ (by first | omega | (simp <;> omega)) _ | with_reducible refine Below.step2 (by with_reducible assumption) ?_ | with_reducible refine Below.step (by with_reducible assumption) ?_ (by first | omega | (simp <;> omega)))))); rintro e wS ⟨hb1, A', c', rfl, hN⟩; have HNS := Lib.hid hN; have kg : Bk wS w.heap.size 24 #[.int .i64 f, .slice A n c, .slice A2 m c2] := (by repeat (first | with_reducible assumption | with_reducible exact Bk.at_ (by first | (simp; done) | omega) | with_reducible refine Bk.alloc ?_ _ | with_reducible refine Bk.drew ?_ | with_reducible refine Bk.drewN ?_ _ | with_reducible refine Bk.step (by with_reducible assumption) ?_ (by first | omega | (simp <;> omega)))); have kj : Bk wS (w.heap.size + 1) 52 #[.int .i64 lo, .int .i64 hi, .int .i64 so] := (by repeat (first | with_reducible assumption | with_reducible exact Bk.at_ (by first | (simp; done) | omega) | with_reducible refine Bk.alloc ?_ _ | with_reducible refine Bk.drew ?_ | with_reducible refine Bk.drewN ?_ _ | with_reducible refine Bk.step (by with_reducible assumption) ?_ (by first | omega | (simp <;> omega)))); obtain ⟨⟨g0, g1, g2⟩, -⟩ := kg.three; obtain ⟨⟨j0, j1, j2⟩, -⟩ := kj.three; have oz1 := hb1.size; (try simp at oz1); clear hN)
        | (go_at_call 56; with_reducible refine (areFrom_one (-2000000) 2000000 D _ _ ?_ ?_ _ E1.out).mono ?_; (focus (simp; done)); (focus (simp; done)); rintro e wD ⟨hb1, rfl⟩; have hbs : Below wS.heap.size wS wD := (by repeat (first | with_reducible exact Below.refl _ _ | with_reducible assumption | with_reducible refine Below.drew ?_ | with_reducible refine Below.drewN ?_ _ | with_reducible refine Below.alloc2 ?_ _ | with_reducible refine Below.alloc ?_ (by first | omega | (simp <;> omega)) _ | with_reducible refine Below.setCell ?_ (by first | omega | (simp <;> omega)) _ | with_reducible refine Below.step2 (by with_reducible assumption) ?_ | with_reducible refine Below.step (by with_reducible assumption) ?_ (by first | omega | (simp <;> omega)))); have HND := Lib.hid (HNS.out.below hbs (Nat.le_refl _) hbs.size); have kj2 : Bk wD (w.heap.size + 1) 52 #[.int .i64 lo, .int .i64 hi, .int .i64 so] := (by repeat (first | with_reducible assumption | with_reducible exact Bk.at_ (by first | (simp; done) | omega) | with_reducible refine Bk.alloc ?_ _ | with_reducible refine Bk.drew ?_ | with_reducible refine Bk.drewN ?_ _ | with_reducible refine Bk.step (by with_reducible assumption) ?_ (by first | omega | (simp <;> omega)))); have HBJ := Lib.hid kj2; clear hbs; have HBD : Hid (Below w.heap.size w wD) := Lib.hid (by exact (by repeat (first | with_reducible exact Below.refl _ _ | with_reducible assumption | with_reducible refine Below.drew ?_ | with_reducible refine Below.drewN ?_ _ | with_reducible refine Below.alloc2 ?_ _ | with_reducible refine Below.alloc ?_ (by first | omega | (simp <;> omega)) _ | with_reducible refine Below.setCell ?_ (by first | omega | (simp <;> omega)) _ | with_reducible refine Below.step2 (by with_reducible assumption) ?_ | with_reducible refine Below.step (by with_reducible assumption) ?_ (by first | omega | (simp <;> omega))))); clear kj2))
    have hcapg := HND.out.cap
    have hmaxg := HND.out.max
    go_loopw [12, 14, 31] (fun v _ x wr => ∃ k : Nat, k ≤ n ∧ x = .int .i64 k ∧ wr.ownsRow wD.heap.size 3 1 v k (i64s (exts D so (hs.take k))) ∧ Below wD.heap.size wD wr) (fun _ _ x _ => n - (intOf x).toNat)
    case atStart => exact ⟨0, Nat.zero_le _, rfl, World.ownsRow_nil _ _ _ _, Below.refl _ _⟩
    case round =>
      obtain ⟨k, hk, rfl, hown, hb⟩ := hrel
      have HB := Lib.hid hb
      have HOWN := Lib.hid hown
      have ow := hb.size
      clear hown
      by_cases hlt2 : k < n
      · obtain ⟨b, o, z, rfl, hbb, hx, c0⟩ := (HND.out.below hb (Nat.le_refl _) hb.size).at_ hlt2
        have HE := Lib.hid (ext_step (D := D) hx)
        have hzb : -1000000 ≤ z ∧ z ≤ 1010000 := by
          obtain ⟨y, hy, rfl⟩ := List.mem_map.1 (List.mem_of_getElem? hx)
          have : -1000000 ≤ y ∧ y ≤ 1000000 := by simpa using List.all_eq_true.1 HBH.out y hy
          omega
        obtain ⟨S, hS⟩ : ∃ S, D - z = S := ⟨_, rfl⟩
        have hw1 : IntKind.i64.wrap (D - z) = S := by rw [hS]; exact IntWalk.i64_in _ (by omega)
        rw [hS] at HE
        clear hb hx hS hzb
        go_wp2_with (at_builtin; refine wpList_append_own_at _ rfl _ _ _ rfl wD.heap.size 3 i0 _ 1 8 Tryz.underlying22 HI0.out HZ0.out HZ1.out HZ2.out rfl (by omega) _ _ _ rfl (HOWN.out.alloc _) ⟨wr.heap.size, 0, none⟩ 1 1 [.int .i64 S] rfl rfl (World.news_of_block (cs := #[.int .i64 S]) (t := 3) (fr := (0, 0)) (heap_alloc_new wr _)) (by intro u hu; simp at hu; subst hu; rfl) (by unfold maxLen; omega) (by omega) (by simp; omega) ?_; intro v1 w1 hown1 hg1 _ _; have HO1 := Lib.hid hown1; have HG1 := Lib.hid hg1; clear hown1 hg1)
        go_roundw
        case rel =>
          have hb0 := HB.out
          refine ⟨k + 1, by omega, by go_num, ?_, ?_⟩
          · have := HO1.out
            rw [HE.out]
            simpa [i64s] using this
          · exact (Below.alloc hb0 hb0.size _).grown HG1.out (by simp; omega) (fun q hq => by have := (HOWN.out.lt _ hq).1; omega)
        case measure => (simp [intOf]; omega)
      · obtain rfl : k = n := by omega
        have HX : Hid (hs.take k = hs) := Lib.hid (List.take_of_length_le (by have := HLEN.out; omega))
        obtain ⟨A5, c5, rfl, hs'⟩ := Nums.of_own HOWN.out
        rw [HX.out] at hs'
        have HS := Lib.hid hs'
        have hjl := HBJ.out.lt
        obtain ⟨⟨j0, j1, j2⟩, -⟩ := Bk.three (show Bk wr (w.heap.size + 1) 52 #[.int .i64 lo, .int .i64 hi, .int .i64 so] from (hb.block _ hjl).trans HBJ.out)
        have HB9 := Lib.hid (HBD.out.trans (hb.mono HBD.out.size))
        clear hs' hb
        cases ba
        · go_wp2_with (first
            | (go_at_call 56; with_reducible refine (areFrom_any _ _ _ (exts D so hs) lo hi _ HS.out).mono ?_; rintro e w1 ⟨hb1, rfl⟩; rw [HBA.out]))
          refine bodyPost_ret (results_tmp2 rfl _ _ _) rfl ?_
          exact ⟨HB9.out.trans (hb1.mono HB9.out.size), rfl⟩
        · go_wp2_with (first
            | (go_at_call 56; with_reducible refine (areFrom_any _ _ _ (exts D so hs) lo hi _ HS.out).mono ?_; rintro e w1 ⟨hb1, rfl⟩; rw [HBA.out]))
          refine bodyPost_ret (results_tmp2 rfl _ _ _) rfl ?_
          exact ⟨HB9.out.trans (hb1.mono HB9.out.size), _, _, rfl, HS.out.below hb1 (Nat.le_refl _) hb1.size⟩

end Go.Proofs.YtgljncfijcamhaaGreatDoor
