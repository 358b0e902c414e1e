/- Chapter 9: the charges of all lots, by terms and by lots. No program is named here. -/
import Derived.Test.YtbeijeblbchglaaChgMath9
import Derived.Test.YtbeijeblbchglaaRefTerms9
import Derived.Test.YtbeijeblbchglaaTotal9
namespace Go.Proofs.Ytbeijeblbchglaa

/-- Terms and moves that are right. -/
structure Good (t : List Q4) (l : List Mv) : Prop where
  tn : t.length ≤ 60
  tg : tGo [] t = 0
  ln : l.length ≤ 300
  mg : mGo t [] l = 0
  st : ∀ p, stOk p l
  ok : l.all okM = true
theorem Good.of {t : List Q4} {l : List Mv} (h : checkErr t l = 0) : Good t l := by
  have hF : termErr t = 0 := Classical.byContradiction fun q => by
    rw [checkErr, if_neg q] at h
    exact q h
  have hG : moveErr t l = 0 := by rwa [checkErr, if_pos hF] at h
  obtain ⟨h1, h2⟩ := moveErr_go hG
  have htg : t.length ≤ 60 ∧ tGo [] t = 0 := by
    unfold termErr at hF
    split at hF
    · cases hF
    · exact ⟨by omega, hF⟩
  refine ⟨htg.1, htg.2, h1, h2, fun p => stOk_of hG p, List.all_eq_true.2 fun m hm => ?_⟩
  obtain ⟨k, hk, rfl⟩ := List.mem_iff_getElem.1 hm
  obtain ⟨-, b, d, -⟩ := mE_zero (moves_each h2 (List.getElem?_eq_getElem hk))
  unfold okM
  rw [b, d]
  rfl
theorem Good.take {t : List Q4} {l : List Mv} (h : Good t l) (k : Nat) : Good t (l.take k) :=
  ⟨h.tn, h.tg, by rw [List.length_take]; have := h.ln; omega, mGo_take t l [] k h.mg, fun p => stOk_take (h.st p) k, all_take h.ok k⟩
theorem Good.up {t : List Q4} {l : List Mv} (h : Good t l) (day : Int) : Good t (upM l day) := h.take _
theorem Good.filter {t : List Q4} {l : List Mv} (h : Good t l) (day : Int) : l.filter (fun x => decide (x.d ≤ day)) = upM l day := filter_up day l (mGo_asc t l [] h.mg).2
theorem Good.term {t : List Q4} {l : List Mv} (h : Good t l) : ∀ x ∈ t, okT x := fun x hx => by
  obtain ⟨k, hk, rfl⟩ := List.mem_iff_getElem.1 hx
  have ih := terms_apart h.tg k (Nat.le_of_lt hk)
  rw [drop_step (List.getElem?_eq_getElem hk), tGo] at ih
  have he : tE (t.take k) t[k] = 0 := by
    split at ih
    · assumption
    · exact ih
  unfold tE at he
  split at he
  · split at he
    · cases he
    · split at he
      · rename_i h3
        unfold rngT at h3
        simp only [Bool.and_eq_true] at h3
        exact ⟨inR_iff.1 h3.1.1, inR_iff.1 h3.2, inR_iff.1 h3.1.2⟩
      · cases he
  · cases he
theorem Good.lots {t : List Q4} {l : List Mv} (h : Good t l) {day : Int} (h0 : 0 ≤ day) (p : ByteArray) : ∀ y ∈ lotsR p (upM l day), okL day y :=
  lots_ok9 p (h.up day).mg ((h.up day).st p) (last_le h0 (upM_days day l))
/-- The term of a part. -/
def trm (t : List Q4) (p : ByteArray) : Q4 := (t[(ixT t p).toNat]?).getD ⟨⟨#[]⟩, 0, 0, 0⟩
def chgR (day : Int) (t : List Q4) (y : Lt) : Q4 := chg day (trm t y.p) y
theorem Good.ix {t : List Q4} {l : List Mv} (h : Good t l) {k : Nat} {x : Q4} (hx : t[k]? = some x) : ixT t x.s = k := ixT_at hx (tE_new h.tg hx) (eqS_iff.2 rfl)
theorem Good.trm_ {t : List Q4} {l : List Mv} (h : Good t l) {k : Nat} {x : Q4} (hx : t[k]? = some x) : trm t x.s = x := by
  unfold trm
  rw [h.ix hx, Int.toNat_natCast, hx]
  rfl
/-- A lot of all: it is as it may be, and it has a term. -/
theorem Good.each {t : List Q4} {l : List Mv} (h : Good t l) {day : Int} (h0 : 0 ≤ day) {y : Lt} (hy : y ∈ lotsT t (upM l day)) : okL day y ∧ ∃ (k : Nat) (x : Q4), t[k]? = some x ∧ k < t.length ∧ ixT t y.p = k ∧ trm t y.p = x ∧ okT x := by
  obtain ⟨x, hx, hy⟩ := List.mem_flatMap.1 hy
  obtain ⟨k, hk, rfl⟩ := List.mem_iff_getElem.1 hx
  have hp := lotsR_part _ _ y hy
  refine ⟨h.lots h0 _ y hy, k, t[k], List.getElem?_eq_getElem hk, hk, ?_, ?_, h.term _ hx⟩
  · rw [hp]
    exact h.ix (List.getElem?_eq_getElem hk)
  · rw [hp]
    exact h.trm_ (List.getElem?_eq_getElem hk)
theorem flat_cong {α β : Type} {f g : α → List β} : ∀ {l : List α}, (∀ x ∈ l, f x = g x) → l.flatMap f = l.flatMap g
  | [], _ => rfl
  | x :: l, h => by rw [List.flatMap_cons, List.flatMap_cons, h x (List.mem_cons_self ..), flat_cong fun y hy => h y (List.mem_cons_of_mem _ hy)]
theorem Good.chgs_ {t : List Q4} {l l' : List Mv} (h : Good t l) (day : Int) : chgs t l' day = (lotsT t l').map (chgR day t) := by
  unfold chgs lotsT
  rw [List.map_flatMap]
  refine flat_cong fun x hx => ?_
  obtain ⟨k, hk, rfl⟩ := List.mem_iff_getElem.1 hx
  unfold chgL
  refine List.map_congr_left fun y hy => ?_
  rw [chgR, lotsR_part _ _ y hy, h.trm_ (List.getElem?_eq_getElem hk)]
theorem Good.chgs_len {t : List Q4} {l : List Mv} (h : Good t l) (day : Int) : (chgs t (upM l day) day).length ≤ t.length * l.length := by
  rw [h.chgs_, List.length_map]
  refine Nat.le_trans (lotsT_len (h.up day).st t) (Nat.mul_le_mul_left _ ?_)
  unfold upM
  rw [List.length_take]
  omega
theorem Good.chgs_amt {t : List Q4} {l : List Mv} (h : Good t l) {day : Int} (hd : 0 ≤ day ∧ day ≤ 20000) : (chgs t (upM l day) day).all amtB = true := by
  rw [h.chgs_]
  refine List.all_eq_true.2 fun c hc => ?_
  obtain ⟨y, hy, rfl⟩ := List.mem_map.1 hc
  obtain ⟨h1, k, x, hx, -, -, h4, h5⟩ := h.each hd.1 hy
  have := chg_amt h1 hd.2 h5
  unfold amtB chgR
  rw [h4]
  exact inR_iff.2 this
theorem chgs_step {t : List Q4} {k : Nat} {x : Q4} (hx : t[k]? = some x) (l : List Mv) (day : Int) : chgs (t.take (k + 1)) l day = chgs (t.take k) l day ++ chgL day x (lotsR x.s l) := by
  rw [take_step hx]
  simp [chgs]
theorem chgL_step {L : List Lt} {k : Nat} {y : Lt} (hy : L[k]? = some y) (day : Int) (x : Q4) : chgL day x (L.take (k + 1)) = chgL day x (L.take k) ++ [chg day x y] := by
  rw [take_step hy]
  simp [chgL]

end Go.Proofs.Ytbeijeblbchglaa
