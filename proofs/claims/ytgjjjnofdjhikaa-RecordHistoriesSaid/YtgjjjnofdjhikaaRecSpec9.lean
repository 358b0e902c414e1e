/- Chapter 9: records as lists: open defects, errors. No walk. -/
import Derived.Test.YtgjjjnofdjhikaaEvent9
import Derived.Test.YtgjjjnofdjhikaaDay9
namespace Go.Proofs.Ytgjjjnofdjhikaa
open Go.RowKit Go.Maps

/-- What is open, and whether it is grave, event by event. -/
def opF (f : Df → Option Bool) (x : Ev) (q : Df) : Option Bool := if x.k = 4 then (if q = (x.p, x.n) then some x.gr else f q) else if x.k = 5 then (if q = (x.p, x.n) then none else f q) else f q
def opn (l : List Ev) : Df → Option Bool := l.foldl opF (fun _ => none)
theorem opn_step {l : List Ev} {k : Nat} {x : Ev} (hx : l[k]? = some x) : opF (opn (l.take k)) x = opn (l.take (k + 1)) := by
  rw [take_step hx]
  simp [opn]
/-- The same, looked up from the front. -/
def isOp (p : ByteArray) (n : Int) (x : Ev) : Bool := decide (x.k = 4) && (eqS x.p p && decide (x.n = n))
def isRe (p : ByteArray) (n : Int) (x : Ev) : Bool := decide (x.k = 5) && (eqS x.p p && decide (x.n = n))
def repIn (l : List Ev) (p : ByteArray) (n : Int) : Bool := l.any (isRe p n)
def hasOp : List Ev → ByteArray → Int → Bool
  | [], _, _ => false
  | x :: r, p, n => (isOp p n x && !repIn r p n) || hasOp r p n
theorem opF_some (f : Df → Option Bool) (x : Ev) (p : ByteArray) (n : Int) : (opF f x (p, n)).isSome = (isOp p n x || ((f (p, n)).isSome && !isRe p n x)) := by
  unfold opF isOp isRe
  by_cases h : (p, n) = (x.p, x.n)
  · have h1 : p = x.p := congrArg Prod.fst h
    have h2 : n = x.n := congrArg Prod.snd h
    subst h1; subst h2
    rw [eqS_iff.2 rfl]
    by_cases h4 : x.k = 4
    · simp [h4]
    · by_cases h5 : x.k = 5
      · simp [h5]
      · simp [h4, h5]
  · have he : (eqS x.p p && decide (x.n = n)) = false := by
      cases h1 : eqS x.p p
      · rfl
      · have h1 := eqS_iff.1 h1
        have h2 : ¬ x.n = n := fun e => h (by rw [h1, e])
        simp [h2]
    simp [h, he]
theorem fold_some : ∀ (l : List Ev) (f : Df → Option Bool) (p : ByteArray) (n : Int), ((l.foldl opF f) (p, n)).isSome = (hasOp l p n || ((f (p, n)).isSome && !repIn l p n))
  | [], f, p, n => by simp [hasOp, repIn]
  | x :: r, f, p, n => by
    rw [List.foldl_cons, fold_some r, opF_some]
    have e : repIn (x :: r) p n = (isRe p n x || repIn r p n) := by simp [repIn]
    rw [e]
    simp only [hasOp]
    cases isOp p n x <;> cases isRe p n x <;> cases repIn r p n <;> cases hasOp r p n <;> cases (f (p, n)).isSome <;> rfl
theorem opn_some (l : List Ev) (p : ByteArray) (n : Int) : (opn l (p, n)).isSome = hasOp l p n := by
  unfold opn
  rw [fold_some]
  simp

/-- The error of an event behind others, of a record. -/
def lastE (l : List Ev) : Int := (l.getLast?.map (·.d)).getD 0
def eEr (b1 b2 b3 b4 b5 b6 b7 b8 : Bool) : Int := if b1 && (b2 && b3) then (if b4 then 10 else if b5 then (if b6 then (if b7 then 5 else if b8 then 6 else 0) else 3) else 4) else 2
def eE (seen : List Ev) (x : Ev) : Int := eEr (dayB x.d) (inR 0 6 x.k) (inR 0 9999 x.n) (decide (x.d < lastE seen)) (platB x.k x.p) (plB x.k x.n x.ps x.gr) (decide (x.k = 4) && (opn seen (x.p, x.n)).isSome) (decide (x.k = 5) && !(opn seen (x.p, x.n)).isSome)
def rGo : List Ev → List Ev → Int
  | _, [] => 0
  | seen, x :: r => if eE seen x = 0 then rGo (seen ++ [x]) r else eE seen x
def recErr (l : List Ev) : Int := if 400 < l.length then 8 else rGo [] l
theorem rGo_bad {l : List Ev} {k : Nat} {x : Ev} {E : Int} (hx : l[k]? = some x) (h : rGo [] l = rGo (l.take k) (l.drop k)) (he : eE (l.take k) x = E) (h0 : E ≠ 0) : rGo [] l = E := by
  rw [h, drop_step hx]
  subst he
  simp only [rGo, if_neg h0]
theorem rGo_next {l : List Ev} {k : Nat} {x : Ev} (hx : l[k]? = some x) (h : rGo [] l = rGo (l.take k) (l.drop k)) (he : eE (l.take k) x = 0) : rGo [] l = rGo (l.take (k + 1)) (l.drop (k + 1)) := by
  rw [h, drop_step hx, take_step hx]
  simp only [rGo, if_pos he]
theorem rGo_end {l : List Ev} {k : Nat} (hk : l.length ≤ k) (h : rGo [] l = rGo (l.take k) (l.drop k)) : rGo [] l = 0 := by
  rw [h, List.drop_eq_nil_of_le hk]
  rfl
theorem lastE_step {l : List Ev} {k : Nat} {x : Ev} (hx : l[k]? = some x) : lastE (l.take (k + 1)) = x.d := by
  rw [take_step hx]
  simp [lastE]
theorem lastE_zero {l : List Ev} : lastE (l.take 0) = 0 := by simp [lastE]
theorem eE_zero {seen : List Ev} {x : Ev} (h : eE seen x = 0) : dayB x.d = true ∧ inR 0 6 x.k = true ∧ inR 0 9999 x.n = true := by
  unfold eE eEr at h
  cases h1 : dayB x.d <;> cases h2 : inR 0 6 x.k <;> cases h3 : inR 0 9999 x.n <;> simp only [h1, h2, h3, Bool.and_true, Bool.and_false, Bool.and_self, Bool.false_eq_true, if_false, if_true] at h
  all_goals first
    | (exact absurd h (by decide))
    | skip
  exact ⟨rfl, rfl, rfl⟩

end Go.Proofs.Ytgjjjnofdjhikaa
