/-
  Valid spans, and what functions of spans hand back.
-/
import Derived.Test.YtogklhbodaghdaaFirst
namespace Go.Proofs.Ytogklhbodaghdaa
open Go.RowKit

def okS (lo hi : Int) : Prop := -1152921504606846976 ≤ lo ∧ lo ≤ hi ∧ hi ≤ 1152921504606846976

/-- A span and an error; a span, whether there is one, and an error. -/
def RetSE (w : World) (lo hi c : Int) (e : Ending) (w' : World) : Prop := e = .returned (.tuple #[.agg #[.int .i64 lo, .int .i64 hi], .int .i64 c]) ∧ Below w.heap.size w w'
def RetSBE (w : World) (lo hi : Int) (b : Bool) (c : Int) (e : Ending) (w' : World) : Prop := e = .returned (.tuple #[.agg #[.int .i64 lo, .int .i64 hi], .bool b, .int .i64 c]) ∧ Below w.heap.size w w'

end Go.Proofs.Ytogklhbodaghdaa
