/- Several texts in one. -/
import Derived.Test.YtgjjjnofdjhikaaSee9
import Derived.Test.YtgjjjnofdjhikaaLineG
import Derived.Test.YtgjjjnofdjhikaaCheckRec9
/- Chapter 9, walks: the status of a platform, by an event. -/
namespace Go.Proofs.Ytgjjjnofdjhikaa
open Go.RowKit Go.Maps

/-- What events tell of a platform, but for its open defects. -/
structure St where
  hd : Bool
  de : Bool
  ho : Bool
  is : Bool
  d : Int
def St.cs (s : St) (gm : Nat) : Array Value := #[.bool s.hd, .bool s.de, .bool s.ho, .bool s.is, .int .i64 s.d, .map (some gm)]
def stF (s : St) (x : Ev) : St :=
  if x.k = 0 then ⟨true, true, false, s.is, s.d⟩
  else if x.k = 1 then ⟨s.hd, s.de, s.hd && x.ps, x.ps, x.d⟩
  else if x.k = 2 then ⟨s.hd, s.de, s.ho, x.ps, x.d⟩
  else if x.k = 3 then ⟨s.hd, s.de, s.ho, false, s.d⟩
  else if x.k = 6 then ⟨s.hd, false, s.ho, s.is, s.d⟩
  else s
/-- A status in memory. -/
structure StAt (w : World) (sb gm n : Nat) (s : St) (f : Df → Option Bool) : Prop where
  bk : Bk w sb 89 (s.cs gm)
  map : BMap w Try.prog 92 4 dfV dfOk gm n f
theorem grown_set (w : World) (b i : Nat) (v : Value) : w.grownBy (w.setCell ⟨b, i, none⟩ v) (some b) :=
  ⟨rfl, rfl, rfl, by simp [World.setCell], fun k _ hk => Below.heap_setCell _ _ _ _ (fun e => hk (by simp [e]))⟩
theorem BMap.set {K E : TypeId} {κ : Df → Value} {Ok : Df → Prop} {w : World} {b n g i : Nat} {v : Value} {f : Df → Option Bool} (h : BMap w Try.prog K E κ Ok b n f) (hne : b ≠ g) : BMap (w.setCell ⟨g, i, none⟩ v) Try.prog K E κ Ok b n f :=
  h.kept (grown_set w g i v) (fun e => hne (by injection e))
theorem Bk.cast {w : World} {g t : Nat} {cs cs' : Array Value} (h : Bk w g t cs) (e : cs = cs') : Bk w g t cs' := e ▸ h
theorem StAt.ne {w : World} {sb gm n : Nat} {s : St} {f : Df → Option Bool} (h : StAt w sb gm n s f) : gm ≠ sb := by
  rintro rfl
  obtain ⟨D, h1, -⟩ := h.map
  obtain ⟨es, it, h2, -⟩ := h1
  have := h.bk
  unfold Bk at this
  rw [this] at h2
  cases h2
set_option maxRecDepth 100000 in
set_option maxHeartbeats 4000000 in
theorem stSee_any (xd xk xn : Int) (xp : ByteArray) (xs xg : Bool) (sb gm n B : Nat) (s : St) (f : Df → Option Bool) (w : World) (h : StAt w sb gm n s f) (hok : dfOk (xp, xn)) (hn : n ≤ 1000000) (hB1 : B ≤ sb) (hB2 : B ≤ gm) :
    Calls Try.prog 72 #[.pointer (some ⟨sb, 0, none⟩), .agg #[.int .i64 xd, .int .i64 xk, .string xp, .int .i64 xn, .bool xs, .bool xg]] w fun e w' => (∃ n', n' ≤ n + 1 ∧ StAt w' sb gm n' (stF s ⟨xd, xk, xp, xn, xs, xg⟩) (opF f ⟨xd, xk, xp, xn, xs, xg⟩)) ∧ Below B w w' ∧ e = .returned (.tuple #[]) := by
  have hne := h.ne
  have osb := h.bk.lt
  have ogm := h.map.lt
  have ST : Hid (∀ W, BMap W Try.prog 92 4 dfV dfOk gm n f → Calls Try.prog 46 #[.map (some gm), .agg #[.int .i64 xd, .int .i64 xk, .string xp, .int .i64 xn, .bool xs, .bool xg]] W fun e w' => (∃ m, m ≤ n + 1 ∧ BMap w' Try.prog 92 4 dfV dfOk gm m (opF f ⟨xd, xk, xp, xn, xs, xg⟩)) ∧ W.grownBy w' (some gm) ∧ e = .returned (.tuple #[])) := Lib.hid fun W hW => see_any xd xk xn xp xs xg gm n f W hW hok hn
  have HM0 : Hid (BMap (w.alloc (.cells #[.int .i64 xd, .int .i64 xk, .string xp, .int .i64 xn, .bool xs, .bool xg] 24)).drew Try.prog 92 4 dfV dfOk gm n f) := Lib.hid (h.map.alloc _).drew
  have HS0 : Hid (Bk (w.alloc (.cells #[.int .i64 xd, .int .i64 xk, .string xp, .int .i64 xn, .bool xs, .bool xg] 24)).drew sb 89 (s.cs gm)) := Lib.hid (h.bk.alloc _).drew
  have HK0 : Hid (Bk (w.alloc (.cells #[.int .i64 xd, .int .i64 xk, .string xp, .int .i64 xn, .bool xs, .bool xg] 24)).drew w.heap.size 24 #[.int .i64 xd, .int .i64 xk, .string xp, .int .i64 xn, .bool xs, .bool xg]) := Lib.hid (Bk.at_ rfl).drew
  have HB0 : Hid (Below B w (w.alloc (.cells #[.int .i64 xd, .int .i64 xk, .string xp, .int .i64 xn, .bool xs, .bool xg] 24)).drew) := Lib.hid (((Below.refl _ w).alloc (by omega) _).drew)
  obtain ⟨⟨c0, c1, c2, c3, c4, c5⟩, -⟩ := h.bk.six
  obtain ⟨S, hS⟩ : ∃ S, opF f ⟨xd, xk, xp, xn, xs, xg⟩ = S := ⟨_, rfl⟩
  rw [hS] at ST ⊢
  clear h hS
  obtain ⟨k0, k1, k2, k3, k4, k5⟩ := HK0.out.sixc
  by_cases h0 : xk = 0
  · have b0 : (xk == 0) = true := by simpa using h0
    have HF : Hid (stF s ⟨xd, xk, xp, xn, xs, xg⟩ = ⟨true, true, false, s.is, s.d⟩) := Lib.hid (by simp [stF, h0])
    clear h0
    (go_enter Try.func72, Try.ntmps72
     go_wp2
     go_region_held3 (fun w' => w'.cell? ⟨sb, 5, none⟩ = some (.map (some gm)) ∧ w'.cell? ⟨w.heap.size, 0, none⟩ = some (.int .i64 xd) ∧ w'.cell? ⟨w.heap.size, 1, none⟩ = some (.int .i64 xk) ∧ w'.cell? ⟨w.heap.size, 2, none⟩ = some (.string xp) ∧ w'.cell? ⟨w.heap.size, 3, none⟩ = some (.int .i64 xn) ∧ w'.cell? ⟨w.heap.size, 4, none⟩ = some (.bool xs) ∧ w'.cell? ⟨w.heap.size, 5, none⟩ = some (.bool xg)) (go_keep) ((go_at_call 46; refine (ST.out _ (by exact HM0.out)).mono ?_; rintro e w1 ⟨⟨m, hm, hm1⟩, hg1, rfl⟩; have HLE := Lib.hid hm; have HM1 := Lib.hid hm1; have hk1 : Bk w1 w.heap.size 24 #[.int .i64 xd, .int .i64 xk, .string xp, .int .i64 xn, .bool xs, .bool xg] := (hg1.block _ HK0.out.lt (by simp; omega)).trans HK0.out; have hs1 : Bk w1 sb 89 _ := (hg1.block _ HS0.out.lt (by simp; omega)).trans HS0.out; have HS1 := Lib.hid hs1; have ol1 := hg1.size; have HG1 : Hid (Below B w w1) := Lib.hid (Below.grown_ HB0.out hg1 (by simp; omega) (fun q hq => by cases hq; exact hB2)); obtain ⟨p0, p1, p2, p3, p4, p5⟩ := hk1.sixc; obtain ⟨⟨v0, v1, v2, v3, v4, v5⟩, f0, f1, f2, f3, f4, f5⟩ := hs1.six; clear hm hm1 hk1 hs1 hg1))
     go_wp2)
    (go_end0
     refine ⟨⟨m, HLE.out, ?_, ?_⟩, ?_, rfl⟩
     · rw [HF.out]
       show Bk _ _ _ (St.cs _ _)
       refine Bk.cast (by (repeat (first | with_reducible apply Bk.set_ | with_reducible apply Bk.drew)); exact HS1.out) (by simp [St.cs])
     · (repeat (first | with_reducible refine BMap.set ?_ hne | with_reducible refine BMap.drew ?_))
       exact HM1.out
     · (repeat (first | with_reducible refine Below.setCell ?_ hB1 _ | with_reducible refine Below.drew ?_))
       exact HG1.out)
  have b0 : (xk == 0) = false := by simpa using h0
  by_cases h1 : xk = 1
  · have b1 : (xk == 1) = true := by simpa using h1
    obtain ⟨shd, sde, sho, sis, sd⟩ := s
    have HF : Hid (stF ⟨shd, sde, sho, sis, sd⟩ ⟨xd, xk, xp, xn, xs, xg⟩ = ⟨shd, sde, shd && xs, xs, xd⟩) := Lib.hid (by simp [stF, h1])
    clear h0 h1
    dsimp only [St.cs] at *
    cases shd
    · (go_enter Try.func72, Try.ntmps72
       go_wp2
       go_region_held3 (fun w' => w'.cell? ⟨sb, 5, none⟩ = some (.map (some gm)) ∧ w'.cell? ⟨w.heap.size, 0, none⟩ = some (.int .i64 xd) ∧ w'.cell? ⟨w.heap.size, 1, none⟩ = some (.int .i64 xk) ∧ w'.cell? ⟨w.heap.size, 2, none⟩ = some (.string xp) ∧ w'.cell? ⟨w.heap.size, 3, none⟩ = some (.int .i64 xn) ∧ w'.cell? ⟨w.heap.size, 4, none⟩ = some (.bool xs) ∧ w'.cell? ⟨w.heap.size, 5, none⟩ = some (.bool xg)) (go_keep) ((go_at_call 46; refine (ST.out _ (by exact HM0.out)).mono ?_; rintro e w1 ⟨⟨m, hm, hm1⟩, hg1, rfl⟩; have HLE := Lib.hid hm; have HM1 := Lib.hid hm1; have hk1 : Bk w1 w.heap.size 24 #[.int .i64 xd, .int .i64 xk, .string xp, .int .i64 xn, .bool xs, .bool xg] := (hg1.block _ HK0.out.lt (by simp; omega)).trans HK0.out; have hs1 : Bk w1 sb 89 _ := (hg1.block _ HS0.out.lt (by simp; omega)).trans HS0.out; have HS1 := Lib.hid hs1; have ol1 := hg1.size; have HG1 : Hid (Below B w w1) := Lib.hid (Below.grown_ HB0.out hg1 (by simp; omega) (fun q hq => by cases hq; exact hB2)); obtain ⟨p0, p1, p2, p3, p4, p5⟩ := hk1.sixc; obtain ⟨⟨v0, v1, v2, v3, v4, v5⟩, f0, f1, f2, f3, f4, f5⟩ := hs1.six; clear hm hm1 hk1 hs1 hg1))
       go_wp2)
      go_region
      go_wp2
      (go_end0
       refine ⟨⟨m, HLE.out, ?_, ?_⟩, ?_, rfl⟩
       · rw [HF.out]
         show Bk _ _ _ (St.cs _ _)
         refine Bk.cast (by (repeat (first | with_reducible apply Bk.set_ | with_reducible apply Bk.drew)); exact HS1.out) (by simp [St.cs])
       · (repeat (first | with_reducible refine BMap.set ?_ hne | with_reducible refine BMap.drew ?_))
         exact HM1.out
       · (repeat (first | with_reducible refine Below.setCell ?_ hB1 _ | with_reducible refine Below.drew ?_))
         exact HG1.out)
    · (go_enter Try.func72, Try.ntmps72
       go_wp2
       go_region_held3 (fun w' => w'.cell? ⟨sb, 5, none⟩ = some (.map (some gm)) ∧ w'.cell? ⟨w.heap.size, 0, none⟩ = some (.int .i64 xd) ∧ w'.cell? ⟨w.heap.size, 1, none⟩ = some (.int .i64 xk) ∧ w'.cell? ⟨w.heap.size, 2, none⟩ = some (.string xp) ∧ w'.cell? ⟨w.heap.size, 3, none⟩ = some (.int .i64 xn) ∧ w'.cell? ⟨w.heap.size, 4, none⟩ = some (.bool xs) ∧ w'.cell? ⟨w.heap.size, 5, none⟩ = some (.bool xg)) (go_keep) ((go_at_call 46; refine (ST.out _ (by exact HM0.out)).mono ?_; rintro e w1 ⟨⟨m, hm, hm1⟩, hg1, rfl⟩; have HLE := Lib.hid hm; have HM1 := Lib.hid hm1; have hk1 : Bk w1 w.heap.size 24 #[.int .i64 xd, .int .i64 xk, .string xp, .int .i64 xn, .bool xs, .bool xg] := (hg1.block _ HK0.out.lt (by simp; omega)).trans HK0.out; have hs1 : Bk w1 sb 89 _ := (hg1.block _ HS0.out.lt (by simp; omega)).trans HS0.out; have HS1 := Lib.hid hs1; have ol1 := hg1.size; have HG1 : Hid (Below B w w1) := Lib.hid (Below.grown_ HB0.out hg1 (by simp; omega) (fun q hq => by cases hq; exact hB2)); obtain ⟨p0, p1, p2, p3, p4, p5⟩ := hk1.sixc; obtain ⟨⟨v0, v1, v2, v3, v4, v5⟩, f0, f1, f2, f3, f4, f5⟩ := hs1.six; clear hm hm1 hk1 hs1 hg1))
       go_wp2)
      go_region
      go_wp2
      (go_end0
       refine ⟨⟨m, HLE.out, ?_, ?_⟩, ?_, rfl⟩
       · rw [HF.out]
         show Bk _ _ _ (St.cs _ _)
         refine Bk.cast (by (repeat (first | with_reducible apply Bk.set_ | with_reducible apply Bk.drew)); exact HS1.out) (by simp [St.cs])
       · (repeat (first | with_reducible refine BMap.set ?_ hne | with_reducible refine BMap.drew ?_))
         exact HM1.out
       · (repeat (first | with_reducible refine Below.setCell ?_ hB1 _ | with_reducible refine Below.drew ?_))
         exact HG1.out)
  have b1 : (xk == 1) = false := by simpa using h1
  by_cases h2 : xk = 2
  · have b2 : (xk == 2) = true := by simpa using h2
    have HF : Hid (stF s ⟨xd, xk, xp, xn, xs, xg⟩ = ⟨s.hd, s.de, s.ho, xs, xd⟩) := Lib.hid (by simp [stF, h2])
    clear h0 h1 h2
    (go_enter Try.func72, Try.ntmps72
     go_wp2
     go_region_held3 (fun w' => w'.cell? ⟨sb, 5, none⟩ = some (.map (some gm)) ∧ w'.cell? ⟨w.heap.size, 0, none⟩ = some (.int .i64 xd) ∧ w'.cell? ⟨w.heap.size, 1, none⟩ = some (.int .i64 xk) ∧ w'.cell? ⟨w.heap.size, 2, none⟩ = some (.string xp) ∧ w'.cell? ⟨w.heap.size, 3, none⟩ = some (.int .i64 xn) ∧ w'.cell? ⟨w.heap.size, 4, none⟩ = some (.bool xs) ∧ w'.cell? ⟨w.heap.size, 5, none⟩ = some (.bool xg)) (go_keep) ((go_at_call 46; refine (ST.out _ (by exact HM0.out)).mono ?_; rintro e w1 ⟨⟨m, hm, hm1⟩, hg1, rfl⟩; have HLE := Lib.hid hm; have HM1 := Lib.hid hm1; have hk1 : Bk w1 w.heap.size 24 #[.int .i64 xd, .int .i64 xk, .string xp, .int .i64 xn, .bool xs, .bool xg] := (hg1.block _ HK0.out.lt (by simp; omega)).trans HK0.out; have hs1 : Bk w1 sb 89 _ := (hg1.block _ HS0.out.lt (by simp; omega)).trans HS0.out; have HS1 := Lib.hid hs1; have ol1 := hg1.size; have HG1 : Hid (Below B w w1) := Lib.hid (Below.grown_ HB0.out hg1 (by simp; omega) (fun q hq => by cases hq; exact hB2)); obtain ⟨p0, p1, p2, p3, p4, p5⟩ := hk1.sixc; obtain ⟨⟨v0, v1, v2, v3, v4, v5⟩, f0, f1, f2, f3, f4, f5⟩ := hs1.six; clear hm hm1 hk1 hs1 hg1))
     go_wp2)
    go_region
    · go_wp2
      (go_end0
       refine ⟨⟨m, HLE.out, ?_, ?_⟩, ?_, rfl⟩
       · rw [HF.out]
         show Bk _ _ _ (St.cs _ _)
         refine Bk.cast (by (repeat (first | with_reducible apply Bk.set_ | with_reducible apply Bk.drew)); exact HS1.out) (by simp [St.cs])
       · (repeat (first | with_reducible refine BMap.set ?_ hne | with_reducible refine BMap.drew ?_))
         exact HM1.out
       · (repeat (first | with_reducible refine Below.setCell ?_ hB1 _ | with_reducible refine Below.drew ?_))
         exact HG1.out)
  have b2 : (xk == 2) = false := by simpa using h2
  by_cases h3 : xk = 3
  · have b3 : (xk == 3) = true := by simpa using h3
    have HF : Hid (stF s ⟨xd, xk, xp, xn, xs, xg⟩ = ⟨s.hd, s.de, s.ho, false, s.d⟩) := Lib.hid (by simp [stF, h3])
    clear h0 h1 h2 h3
    (go_enter Try.func72, Try.ntmps72
     go_wp2
     go_region_held3 (fun w' => w'.cell? ⟨sb, 5, none⟩ = some (.map (some gm)) ∧ w'.cell? ⟨w.heap.size, 0, none⟩ = some (.int .i64 xd) ∧ w'.cell? ⟨w.heap.size, 1, none⟩ = some (.int .i64 xk) ∧ w'.cell? ⟨w.heap.size, 2, none⟩ = some (.string xp) ∧ w'.cell? ⟨w.heap.size, 3, none⟩ = some (.int .i64 xn) ∧ w'.cell? ⟨w.heap.size, 4, none⟩ = some (.bool xs) ∧ w'.cell? ⟨w.heap.size, 5, none⟩ = some (.bool xg)) (go_keep) ((go_at_call 46; refine (ST.out _ (by exact HM0.out)).mono ?_; rintro e w1 ⟨⟨m, hm, hm1⟩, hg1, rfl⟩; have HLE := Lib.hid hm; have HM1 := Lib.hid hm1; have hk1 : Bk w1 w.heap.size 24 #[.int .i64 xd, .int .i64 xk, .string xp, .int .i64 xn, .bool xs, .bool xg] := (hg1.block _ HK0.out.lt (by simp; omega)).trans HK0.out; have hs1 : Bk w1 sb 89 _ := (hg1.block _ HS0.out.lt (by simp; omega)).trans HS0.out; have HS1 := Lib.hid hs1; have ol1 := hg1.size; have HG1 : Hid (Below B w w1) := Lib.hid (Below.grown_ HB0.out hg1 (by simp; omega) (fun q hq => by cases hq; exact hB2)); obtain ⟨p0, p1, p2, p3, p4, p5⟩ := hk1.sixc; obtain ⟨⟨v0, v1, v2, v3, v4, v5⟩, f0, f1, f2, f3, f4, f5⟩ := hs1.six; clear hm hm1 hk1 hs1 hg1))
     go_wp2)
    (go_end0
     refine ⟨⟨m, HLE.out, ?_, ?_⟩, ?_, rfl⟩
     · rw [HF.out]
       show Bk _ _ _ (St.cs _ _)
       refine Bk.cast (by (repeat (first | with_reducible apply Bk.set_ | with_reducible apply Bk.drew)); exact HS1.out) (by simp [St.cs])
     · (repeat (first | with_reducible refine BMap.set ?_ hne | with_reducible refine BMap.drew ?_))
       exact HM1.out
     · (repeat (first | with_reducible refine Below.setCell ?_ hB1 _ | with_reducible refine Below.drew ?_))
       exact HG1.out)
  have b3 : (xk == 3) = false := by simpa using h3
  by_cases h6 : xk = 6
  · have b6 : (xk == 6) = true := by simpa using h6
    have HF : Hid (stF s ⟨xd, xk, xp, xn, xs, xg⟩ = ⟨s.hd, false, s.ho, s.is, s.d⟩) := Lib.hid (by simp [stF, h6])
    clear h0 h1 h2 h3 h6
    (go_enter Try.func72, Try.ntmps72
     go_wp2
     go_region_held3 (fun w' => w'.cell? ⟨sb, 5, none⟩ = some (.map (some gm)) ∧ w'.cell? ⟨w.heap.size, 0, none⟩ = some (.int .i64 xd) ∧ w'.cell? ⟨w.heap.size, 1, none⟩ = some (.int .i64 xk) ∧ w'.cell? ⟨w.heap.size, 2, none⟩ = some (.string xp) ∧ w'.cell? ⟨w.heap.size, 3, none⟩ = some (.int .i64 xn) ∧ w'.cell? ⟨w.heap.size, 4, none⟩ = some (.bool xs) ∧ w'.cell? ⟨w.heap.size, 5, none⟩ = some (.bool xg)) (go_keep) ((go_at_call 46; refine (ST.out _ (by exact HM0.out)).mono ?_; rintro e w1 ⟨⟨m, hm, hm1⟩, hg1, rfl⟩; have HLE := Lib.hid hm; have HM1 := Lib.hid hm1; have hk1 : Bk w1 w.heap.size 24 #[.int .i64 xd, .int .i64 xk, .string xp, .int .i64 xn, .bool xs, .bool xg] := (hg1.block _ HK0.out.lt (by simp; omega)).trans HK0.out; have hs1 : Bk w1 sb 89 _ := (hg1.block _ HS0.out.lt (by simp; omega)).trans HS0.out; have HS1 := Lib.hid hs1; have ol1 := hg1.size; have HG1 : Hid (Below B w w1) := Lib.hid (Below.grown_ HB0.out hg1 (by simp; omega) (fun q hq => by cases hq; exact hB2)); obtain ⟨p0, p1, p2, p3, p4, p5⟩ := hk1.sixc; obtain ⟨⟨v0, v1, v2, v3, v4, v5⟩, f0, f1, f2, f3, f4, f5⟩ := hs1.six; clear hm hm1 hk1 hs1 hg1))
     go_wp2)
    (go_end0
     refine ⟨⟨m, HLE.out, ?_, ?_⟩, ?_, rfl⟩
     · rw [HF.out]
       show Bk _ _ _ (St.cs _ _)
       refine Bk.cast (by (repeat (first | with_reducible apply Bk.set_ | with_reducible apply Bk.drew)); exact HS1.out) (by simp [St.cs])
     · (repeat (first | with_reducible refine BMap.set ?_ hne | with_reducible refine BMap.drew ?_))
       exact HM1.out
     · (repeat (first | with_reducible refine Below.setCell ?_ hB1 _ | with_reducible refine Below.drew ?_))
       exact HG1.out)
  have b6 : (xk == 6) = false := by simpa using h6
  have HF : Hid (stF s ⟨xd, xk, xp, xn, xs, xg⟩ = s) := Lib.hid (by simp [stF, h0, h1, h2, h3, h6])
  clear h0 h1 h2 h3 h6
  (go_enter Try.func72, Try.ntmps72
   go_wp2
   go_region_held3 (fun w' => w'.cell? ⟨sb, 5, none⟩ = some (.map (some gm)) ∧ w'.cell? ⟨w.heap.size, 0, none⟩ = some (.int .i64 xd) ∧ w'.cell? ⟨w.heap.size, 1, none⟩ = some (.int .i64 xk) ∧ w'.cell? ⟨w.heap.size, 2, none⟩ = some (.string xp) ∧ w'.cell? ⟨w.heap.size, 3, none⟩ = some (.int .i64 xn) ∧ w'.cell? ⟨w.heap.size, 4, none⟩ = some (.bool xs) ∧ w'.cell? ⟨w.heap.size, 5, none⟩ = some (.bool xg)) (go_keep) ((go_at_call 46; refine (ST.out _ (by exact HM0.out)).mono ?_; rintro e w1 ⟨⟨m, hm, hm1⟩, hg1, rfl⟩; have HLE := Lib.hid hm; have HM1 := Lib.hid hm1; have hk1 : Bk w1 w.heap.size 24 #[.int .i64 xd, .int .i64 xk, .string xp, .int .i64 xn, .bool xs, .bool xg] := (hg1.block _ HK0.out.lt (by simp; omega)).trans HK0.out; have hs1 : Bk w1 sb 89 _ := (hg1.block _ HS0.out.lt (by simp; omega)).trans HS0.out; have HS1 := Lib.hid hs1; have ol1 := hg1.size; have HG1 : Hid (Below B w w1) := Lib.hid (Below.grown_ HB0.out hg1 (by simp; omega) (fun q hq => by cases hq; exact hB2)); obtain ⟨p0, p1, p2, p3, p4, p5⟩ := hk1.sixc; obtain ⟨⟨v0, v1, v2, v3, v4, v5⟩, f0, f1, f2, f3, f4, f5⟩ := hs1.six; clear hm hm1 hk1 hs1 hg1))
   go_wp2)
  (go_end0
   refine ⟨⟨m, HLE.out, ?_, ?_⟩, ?_, rfl⟩
   · rw [HF.out]
     show Bk _ _ _ (St.cs _ _)
     refine Bk.cast (by (repeat (first | with_reducible apply Bk.set_ | with_reducible apply Bk.drew)); exact HS1.out) (by simp [St.cs])
   · (repeat (first | with_reducible refine BMap.set ?_ hne | with_reducible refine BMap.drew ?_))
     exact HM1.out
   · (repeat (first | with_reducible refine Below.setCell ?_ hB1 _ | with_reducible refine Below.drew ?_))
     exact HG1.out)

end Go.Proofs.Ytgjjjnofdjhikaa

/- Chapter 9, walks: statusOf. -/
namespace Go.Proofs.Ytgjjjnofdjhikaa
open Go.RowKit Go.Maps

/-- The events up to a day that tell of a platform. -/
def ownE (p : ByteArray) (day : Int) (x : Ev) : Bool := decide (x.d ≤ day) && (eqS x.p p || decide (x.k = 3))
def st0 : St := ⟨false, false, false, false, 0⟩
def stOf (F : List Ev) : St := F.foldl stF st0
theorem own_yes {l : List Ev} {k : Nat} {x : Ev} {p : ByteArray} {day : Int} (hx : l[k]? = some x) (h : ownE p day x = true) : stOf ((l.take (k + 1)).filter (ownE p day)) = stF (stOf ((l.take k).filter (ownE p day))) x ∧ opn ((l.take (k + 1)).filter (ownE p day)) = opF (opn ((l.take k).filter (ownE p day))) x := by
  rw [take_step hx, List.filter_append]
  simp [h, stOf, opn]
theorem own_no {l : List Ev} {k : Nat} {x : Ev} {p : ByteArray} {day : Int} (hx : l[k]? = some x) (h : ownE p day x = false) : (l.take (k + 1)).filter (ownE p day) = (l.take k).filter (ownE p day) := by
  rw [take_step hx, List.filter_append]
  simp [h]
theorem StAt.alloc {w : World} {sb gm n : Nat} {s : St} {f : Df → Option Bool} (h : StAt w sb gm n s f) (o : Obj) : StAt (w.alloc o) sb gm n s f := ⟨h.bk.alloc o, h.map.alloc o⟩
set_option maxRecDepth 100000 in
set_option maxHeartbeats 8000000 in
theorem statusOf_any (A : Option Addr) (n c : Nat) (l : List Ev) (p : ByteArray) (day : Int) (w : World) (h : Rws Ev.cs 6 w w.heap.size A n c l) (hn : n ≤ 1000) (hs : ∀ x ∈ l, x.p.size ≤ 30) (ho : ∀ x ∈ l, evOk x) :
    Calls Try.prog 50 #[.slice A n c, .string p, .int .i64 day] w fun e w' => Below w.heap.size w w' ∧ ∃ gm m, w.heap.size ≤ gm ∧ m ≤ 1000 ∧ e = .returned (.agg ((stOf (l.filter (ownE p day))).cs gm)) ∧ BMap w' Try.prog 92 4 dfV dfOk gm m (opn (l.filter (ownE p day))) := by
  have hcap := h.cap
  have hmax := h.max
  have HLEN := Lib.hid h.len
  have HS := Lib.hid hs
  have HO := Lib.hid ho
  have H : Hid (∀ w', Below w.heap.size w w' → Rws Ev.cs 6 w' w.heap.size A n c l) := fun w' hb => h.below hb (Nat.le_refl _) (Nat.le_refl _)
  clear h hs ho
  have hmm := @run_makeMap Try.prog
  go_enter Try.func50, Try.ntmps50
  go_wp2
  go_loopw [9, 14] (fun _ i wr => ∃ k : Nat, k ≤ n ∧ i = .int .i64 k ∧ (∃ n', n' ≤ k ∧ Hid (StAt wr (w.heap.size + 1 + 1) (w.heap.size + 1) n' (stOf ((l.take k).filter (ownE p day))) (opn ((l.take k).filter (ownE p day))))) ∧ Hid (Bk wr w.heap.size 89 #[.bool false, .bool false, .bool false, .bool false, .int .i64 0, .map none]) ∧ Below w.heap.size w wr) (fun _ i _ => n - (intOf i).toNat)
  case atStart =>
    refine ⟨0, Nat.zero_le _, rfl, ⟨0, Nat.le_refl _, Lib.hid ⟨?_, ?_⟩⟩, Lib.hid ?_, (by repeat (first | with_reducible exact Below.refl _ _ | with_reducible assumption | with_reducible refine Below.drew ?_ | with_reducible refine Below.drewN ?_ _ | with_reducible refine Below.alloc2 ?_ _ | with_reducible refine Below.alloc ?_ (by first | omega | (simp <;> omega)) _ | with_reducible refine Below.setCell ?_ (by first | omega | (simp <;> omega)) _ | with_reducible refine Below.step2 (by with_reducible assumption) ?_ | with_reducible refine Below.step (by with_reducible assumption) ?_ (by first | omega | (simp <;> omega))))⟩
    · exact Bk.at_ (by simp)
    · have := BMap.made (P := Try.prog) (K := 92) (E := 4) (κ := dfV) (Ok := dfOk) (w.alloc (.cells #[.bool false, .bool false, .bool false, .bool false, .int .i64 0, .map none] 89))
      rw [show (w.alloc (.cells #[.bool false, .bool false, .bool false, .bool false, .int .i64 0, .map none] 89)).heap.size = w.heap.size + 1 by simp] at this
      exact this.alloc _
    · exact ((Bk.at_ rfl).alloc _).alloc _
  case round =>
    obtain ⟨k, hk, rfl, ⟨n', hn', SA⟩, RC, hb⟩ := hrel
    have HB := Lib.hid hb
    have ow := hb.size
    by_cases hlt : k < n
    · obtain ⟨b, o, ⟨xd, xk, xp, xn, xs, xg⟩, rfl, hbb, hx, c0, c1, c2, c3, c4, c5⟩ := (H.out _ hb).ev hlt
      dsimp only at c0 c1 c2 c3 c4 c5
      have hxp : xp.size ≤ 30 := HS.out _ (List.mem_of_getElem? hx)
      have HK : Hid (dfOk (xp, xn)) := Lib.hid ⟨by show xp.size ≤ 1000; omega, HO.out _ (List.mem_of_getElem? hx)⟩
      have ob : b < wr.heap.size := by omega
      obtain ⟨v, hv⟩ : ∃ v, (xp.toList == p.toList) = v := ⟨_, rfl⟩
      obtain ⟨v3, hv3⟩ : ∃ v, (xk == 3) = v := ⟨_, rfl⟩
      obtain ⟨vd, hvd⟩ : ∃ v, decide (xd ≤ day) = v := ⟨_, rfl⟩
      have HW : Hid (ownE p day ⟨xd, xk, xp, xn, xs, xg⟩ = (vd && (v || v3))) := Lib.hid (by
        rw [← hv, ← hv3, ← hvd]
        show (decide (xd ≤ day) && (eqS xp p || decide (xk = 3))) = _
        rw [eqS]
        congr 2)
      have HX := Lib.hid hx
      clear hx
      cases vd
      · have HN := Lib.hid (own_no HX.out HW.out)
        (go_wp2
         go_roundw
         case rel => exact ⟨k + 1, by omega, by go_num, ⟨n', by omega, Lib.hid (by rw [HN.out]; exact (SA.out.alloc _))⟩, Lib.hid (RC.out.alloc _), (by have hb0 := HB.out; exact (by repeat (first | with_reducible exact Below.refl _ _ | with_reducible assumption | with_reducible refine Below.drew ?_ | with_reducible refine Below.drewN ?_ _ | with_reducible refine Below.alloc2 ?_ _ | with_reducible refine Below.alloc ?_ (by first | omega | (simp <;> omega)) _ | with_reducible refine Below.setCell ?_ (by first | omega | (simp <;> omega)) _ | with_reducible refine Below.step2 (by with_reducible assumption) ?_ | with_reducible refine Below.step (by with_reducible assumption) ?_ (by first | omega | (simp <;> omega)))))⟩
         case measure => simp [intOf]; omega)
      · cases v
        · cases v3
          · have HN := Lib.hid (own_no HX.out HW.out)
            (go_wp2
             go_roundw
             case rel => exact ⟨k + 1, by omega, by go_num, ⟨n', by omega, Lib.hid (by rw [HN.out]; exact (SA.out.alloc _))⟩, Lib.hid (RC.out.alloc _), (by have hb0 := HB.out; exact (by repeat (first | with_reducible exact Below.refl _ _ | with_reducible assumption | with_reducible refine Below.drew ?_ | with_reducible refine Below.drewN ?_ _ | with_reducible refine Below.alloc2 ?_ _ | with_reducible refine Below.alloc ?_ (by first | omega | (simp <;> omega)) _ | with_reducible refine Below.setCell ?_ (by first | omega | (simp <;> omega)) _ | with_reducible refine Below.step2 (by with_reducible assumption) ?_ | with_reducible refine Below.step (by with_reducible assumption) ?_ (by first | omega | (simp <;> omega)))))⟩
             case measure => simp [intOf]; omega)
          · have HN := Lib.hid (own_yes HX.out HW.out)
            (go_wp2_with (go_at_call 72; refine (stSee_any xd xk xn xp xs xg _ _ _ (w.heap.size + 1) _ _ _ (SA.out.alloc _) HK.out (by omega) (by omega) (by omega)).mono ?_; rintro e w1 ⟨⟨m, hm, hst⟩, hb1, rfl⟩; have HST := Lib.hid hst; have HB1 : Hid (Below w.heap.size w w1) := Lib.hid ((HB.out.alloc HB.out.size _).trans (hb1.mono (by omega))); have HRC : Hid (Bk w1 w.heap.size 89 #[.bool false, .bool false, .bool false, .bool false, .int .i64 0, .map none]) := Lib.hid ((RC.out.alloc _).below hb1 (by omega)); clear hst hb1)
             go_roundw
             case rel => exact ⟨k + 1, by omega, by go_num, ⟨m, by omega, Lib.hid (by rw [HN.out.1, HN.out.2]; exact HST.out)⟩, HRC, HB1.out⟩
             case measure => simp [intOf]; omega)
        · have HN := Lib.hid (own_yes HX.out HW.out)
          (go_wp2_with (go_at_call 72; refine (stSee_any xd xk xn xp xs xg _ _ _ (w.heap.size + 1) _ _ _ (SA.out.alloc _) HK.out (by omega) (by omega) (by omega)).mono ?_; rintro e w1 ⟨⟨m, hm, hst⟩, hb1, rfl⟩; have HST := Lib.hid hst; have HB1 : Hid (Below w.heap.size w w1) := Lib.hid ((HB.out.alloc HB.out.size _).trans (hb1.mono (by omega))); have HRC : Hid (Bk w1 w.heap.size 89 #[.bool false, .bool false, .bool false, .bool false, .int .i64 0, .map none]) := Lib.hid ((RC.out.alloc _).below hb1 (by omega)); clear hst hb1)
           go_roundw
           case rel => exact ⟨k + 1, by omega, by go_num, ⟨m, by omega, Lib.hid (by rw [HN.out.1, HN.out.2]; exact HST.out)⟩, HRC, HB1.out⟩
           case measure => simp [intOf]; omega)
    · obtain rfl : k = n := by omega
      rw [List.take_of_length_le (by rw [HLEN.out]; omega)] at SA
      generalize hF : l.filter (ownE p day) = F at *
      obtain ⟨s, hs⟩ : ∃ s, stOf F = s := ⟨_, rfl⟩
      rw [hs] at SA
      have HSS := Lib.hid hs
      clear hs
      obtain ⟨s0, s1, s2, s3, s4⟩ := s
      have hbk := SA.out.bk
      unfold St.cs at hbk
      obtain ⟨⟨z0, z1, z2, z3, z4, z5⟩, -⟩ := hbk.six
      obtain ⟨⟨y0, y1, y2, y3, y4, y5⟩, f0, f1, f2, f3, f4, f5⟩ := RC.out.six
      have orc := RC.out.lt
      clear hbk hb
      go_wp2
      refine bodyPost_ret (v := .agg (St.cs ⟨s0, s1, s2, s3, s4⟩ (w.heap.size + 1))) (by simp [results, Try.results50, go_sem, St.cs, y0, y1, y2, y3, y4, y5]) rfl ⟨(by have hb0 := HB.out; exact (by repeat (first | with_reducible exact Below.refl _ _ | with_reducible assumption | with_reducible refine Below.drew ?_ | with_reducible refine Below.drewN ?_ _ | with_reducible refine Below.alloc2 ?_ _ | with_reducible refine Below.alloc ?_ (by first | omega | (simp <;> omega)) _ | with_reducible refine Below.setCell ?_ (by first | omega | (simp <;> omega)) _ | with_reducible refine Below.step2 (by with_reducible assumption) ?_ | with_reducible refine Below.step (by with_reducible assumption) ?_ (by first | omega | (simp <;> omega))))), w.heap.size + 1, by omega, n', by omega, by rw [HSS.out], ?_⟩
      (repeat (with_reducible refine BMap.set ?_ (by omega)))
      exact SA.out.map

end Go.Proofs.Ytgjjjnofdjhikaa
