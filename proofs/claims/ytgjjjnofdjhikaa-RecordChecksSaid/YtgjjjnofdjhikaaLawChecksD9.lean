/- The law RecordChecks, for every record and event. -/
import Derived.Test.YtgjjjnofdjhikaaLawChecksB9
import Derived.Test.YtgjjjnofdjhikaaLawChecksC9
namespace Go.Proofs.Ytgjjjnofdjhikaa
open Go.RowKit Go.WideShapes

/-- The law, for every record and event. -/
theorem lawChecks_any (A : Option Addr) (n c : Nat) (l : List Ev) (x : Ev) (w : World) (h : Rws Ev.cs 6 w w.heap.size A n c l) (ho : ∀ x ∈ l, evOk x) (hx : evOk x) :
    Calls Try.prog 3 #[.slice A n c, .agg #[.int .i64 x.d, .int .i64 x.k, .string x.p, .int .i64 x.n, .bool x.ps, .bool x.gr]] w fun e w' => Below w.heap.size w w' ∧ e = .returned (.bool true) := by
  obtain ⟨xd, xk, xp, xn, xs, xg⟩ := x
  by_cases hl : shB l = true
  · by_cases hp : xp.size ≤ 30
    · by_cases hE : recErr l = 0
      · by_cases h0 : recErr (l ++ [⟨xd, xk, xp, xn, xs, xg⟩]) = 0
        · exact lawChecks_okG A n c l xd xk xn xp xs xg w h hl hp ho hx hE h0
        · exact lawChecks_okN A n c l xd xk xn xp xs xg w h hl hp ho hx hE h0
      · exact lawChecks_bad A n c l xd xk xn xp xs xg w h hl hp ho hE
    · exact lawChecks_long A n c l xd xk xn xp xs xg w h (.inr (by omega))
  · exact lawChecks_long A n c l xd xk xn xp xs xg w h (.inl (by simpa using hl))

end Go.Proofs.Ytgjjjnofdjhikaa
