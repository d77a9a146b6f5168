/-
  Two strings that are the same.
-/
import Derived.Test.YtlginmnmobkbhaaZCell
namespace Go.Proofs.Ytlginmnmobkbhaa
open Go.RowKit

set_option maxRecDepth 100000 in
theorem strEqZ (S : ByteArray) : (S == S) = true := by
  show ByteArray.beq S S = true
  unfold ByteArray.beq
  simp

end Go.Proofs.Ytlginmnmobkbhaa
