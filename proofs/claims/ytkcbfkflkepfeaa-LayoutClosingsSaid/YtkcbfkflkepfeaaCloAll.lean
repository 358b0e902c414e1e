/- Length, CostOf and CheckClosing in one contract each, whether the closing is valid or not. -/
import Derived.Test.YtkcbfkflkepfeaaCloFn
import Derived.Test.YtkcbfkflkepfeaaRefCost
import Derived.Test.YtkcbfkflkepfeaaCopyClo
import Derived.Test.YtkcbfkflkepfeaaAwakeL
import Derived.Test.YtkcbfkflkepfeaaRefCheck
import Derived.Test.YtkcbfkflkepfeaaLess3
import Derived.Test.YtkcbfkflkepfeaaCostOf
namespace Go.Proofs.Ytkcbfkflkepfeaa
open Go.RowKit

theorem length_all (A A2 : Option Addr) (n c n2 c2 : Nat) (s : Sys) (w : World) (h : SysAt w w.heap.size A n c A2 n2 c2 s) (B B2 : Option Addr) (m d m2 d2 : Nat) (lb lo : List Int) (hc : CloAt w w.heap.size B m d B2 m2 d2 lb lo) (z L : Int) (he : s.sysClo lb lo = z) (hL : L = if z = 0 then cloLen lb lo else 0) :
    Calls Try.prog 11 #[.agg #[.slice A n c, .slice A2 n2 c2, .int .i64 s.width, .int .i64 s.gap, .int .i64 s.lift], .agg #[.slice B m d, .slice B2 m2 d2]] w fun e w' => Below w.heap.size w w' ∧ e = .returned (.tuple #[.int .i64 L, .int .i64 z]) := by
  subst hL
  by_cases hz : z = 0
  · subst hz
    rw [if_pos rfl]
    exact length_ok A A2 n c n2 c2 s w h B B2 m d m2 d2 lb lo hc he
  · rw [if_neg hz]
    exact length_bad A A2 n c n2 c2 s w h B B2 m d m2 d2 lb lo hc z he hz
theorem costOf_all (A A2 : Option Addr) (n c n2 c2 : Nat) (s : Sys) (w : World) (h : SysAt w w.heap.size A n c A2 n2 c2 s) (B B2 : Option Addr) (m d m2 d2 : Nat) (lb lo : List Int) (hc : CloAt w w.heap.size B m d B2 m2 d2 lb lo) (z o p : Int) (he : s.sysClo lb lo = z) (ho : o = if z = 0 then ((m2 + odds s.reg lb : Nat) : Int) else 0) (hp : p = if z = 0 then (m : Int) else 0) :
    Calls Try.prog 14 #[.agg #[.slice A n c, .slice A2 n2 c2, .int .i64 s.width, .int .i64 s.gap, .int .i64 s.lift], .agg #[.slice B m d, .slice B2 m2 d2]] w fun e w' => Below w.heap.size w w' ∧ e = .returned (.tuple #[.agg #[.int .i64 o, .int .i64 p], .int .i64 z]) := by
  subst ho hp
  by_cases hz : z = 0
  · subst hz
    rw [if_pos rfl, if_pos rfl]
    exact costOf_ok A A2 n c n2 c2 s w h B B2 m d m2 d2 lb lo hc (Sys.clo_ok he)
  · rw [if_neg hz, if_neg hz]
    exact costOf_bad A A2 n c n2 c2 s w h B B2 m d m2 d2 lb lo hc z he hz
theorem check_all (A A2 : Option Addr) (n c n2 c2 : Nat) (s : Sys) (w : World) (h : SysAt w w.heap.size A n c A2 n2 c2 s) (B B2 : Option Addr) (m d m2 d2 : Nat) (lb lo : List Int) (hc : CloAt w w.heap.size B m d B2 m2 d2 lb lo) (z x g : Int) (he : s.sysClo lb lo = z) (hg : g = if z = 0 then (if cloLen lb lo = x then 0 else 25) else z) :
    Calls Try.prog 15 #[.agg #[.slice A n c, .slice A2 n2 c2, .int .i64 s.width, .int .i64 s.gap, .int .i64 s.lift], .int .i64 x, .agg #[.slice B m d, .slice B2 m2 d2]] w fun e w' => Below w.heap.size w w' ∧ e = .returned (.int .i64 g) := by
  subst hg
  by_cases hz : z = 0
  · subst hz
    rw [if_pos rfl]
    exact check_ok A A2 n c n2 c2 s w h B B2 m d m2 d2 lb lo hc x he
  · rw [if_neg hz]
    exact check_bad A A2 n c n2 c2 s w h B B2 m d m2 d2 lb lo hc z x he hz

end Go.Proofs.Ytkcbfkflkepfeaa
