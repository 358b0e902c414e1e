/- The law RecordDays, all cases. -/
import Derived.Test.YtbeijeblbchglaaLawDays9
namespace Go.Proofs.Ytbeijeblbchglaa
open Go.RowKit Go.WideShapes Go.Deep

theorem lawDays_any (T A : Option Addr) (tn tc n c : Nat) (t : List Q4) (l : List Mv) (day : Int) (w : World) (ht : Rws Q4.cs 4 w w.heap.size T tn tc t) (h : Rws Mv.cs 4 w w.heap.size A n c l) :
    Calls Try.prog 10 #[.slice T tn tc, .slice A n c, .int .i64 day] w fun e w' => Below w.heap.size w w' ∧ e = .returned (.bool true) := by
  by_cases h1 : hB t l = false
  · exact lawDays_early T A tn tc n c t l day w ht h (.inl h1)
  · by_cases h2 : checkErr t l = 0
    · by_cases h3 : dayB day = false
      · exact lawDays_early T A tn tc n c t l day w ht h (.inr (.inr h3))
      · exact lawDays_ok T A tn tc n c t l day w ht h (by simpa using h1) h2 (by simpa using h3)
    · exact lawDays_early T A tn tc n c t l day w ht h (.inr (.inl h2))

end Go.Proofs.Ytbeijeblbchglaa
