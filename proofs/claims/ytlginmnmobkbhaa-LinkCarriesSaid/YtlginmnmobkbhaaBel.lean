/-
  A world behind a draw.
-/
import Derived.Below
import Derived.Deep.Draws
namespace Go.Proofs.Ytlginmnmobkbhaa
open Go Go.RowKit

theorem below_un {B : Nat} {w w' : World} (h : Below B w.drew w') : Below B w w' := ⟨h.os, h.tape, h.output, h.size, h.block⟩
end Go.Proofs.Ytlginmnmobkbhaa
