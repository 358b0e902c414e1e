/- Chapter 9: days. No program is walked here. -/
import Derived.Test.YtgjjjnofdjhikaaBase9
namespace Go.Proofs.Ytgjjjnofdjhikaa

theorem dayB_iff {n : Int} : dayB n = true ↔ 0 ≤ n ∧ n ≤ 20000 := inR_iff

end Go.Proofs.Ytgjjjnofdjhikaa
