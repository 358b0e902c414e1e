/- The law RecordHistories, for every record, platform and time. -/
import Derived.Test.YtgjjjnofdjhikaaLawHist9
namespace Go.Proofs.Ytgjjjnofdjhikaa
open Go.RowKit

theorem lawHist_any (A : Option Addr) (n c : Nat) (l : List Ev) (p : ByteArray) (a b : Int) (w : World) (h : Rws Ev.cs 6 w w.heap.size A n c l) (ho : ∀ x ∈ l, evOk x) :
    Calls Try.prog 5 #[.slice A n c, .agg #[.string p, .int .i64 a, .int .i64 b]] w fun e w' => Below w.heap.size w w' ∧ e = .returned (.bool true) := by
  by_cases hl : shB l = true
  · by_cases hp : p.size ≤ 30
    · by_cases hf : dayB a = true ∧ dayB b = true ∧ 60 < b - a
      · exact lawHist_far A n c l p a b w h hl hp hf.1 hf.2.1 hf.2.2
      · by_cases hE : hErr l p a b = 0
        · exact lawHist_ok A n c l p a b w h hl hp ho hf hE
        · by_cases hR : recErr l = 0
          · exact lawHist_bad A n c l p a b w h hl hp ho hf hR _ rfl hE
          · exact lawHist_rec A n c l p a b w h hl hp ho hf _ rfl hR
    · exact lawHist_long A n c l p a b w h (.inr (by omega))
  · exact lawHist_long A n c l p a b w h (.inl (by simpa using hl))

end Go.Proofs.Ytgjjjnofdjhikaa
