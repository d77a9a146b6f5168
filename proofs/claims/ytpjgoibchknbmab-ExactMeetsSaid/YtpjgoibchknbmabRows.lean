/-
  No cell of these rows narrows 'for every input' (looked for: loops, veiled, ifaces, maps, wideKeys, modest, calm, conditions, laid).
  DERIVED. THE GIVEN ROWS OF THIS SEAT. 3 by the template 'for every input the law returns true; each argument reads behind the call as it read before'; 0 by the template 'total and deterministic' (their statements: YtpjgoibchknbmabTotals.lean).
  GIVEN WITH THE SEED: the statements are not yours to turn. If you find one false, say at which input.
  Laid BY PROGRAM, IN A SANDBOX (cutbox-rows.mjs): the forced cells as the released guide's own fill.sh prints them over the translation 05c24a707850b85e… (all of the seat's roots in one cut). By AI agents, Wed Nov 11 2026. No macro, syntax, notation, axiom, sorry.
-/
import Derived.Test.YtpjgoibchknbmabChecked
import GoSem.Claim
import GoSem.ClaimJoined
import GoSem.ClaimMapViews
import Derived.JoinedTies
import Derived.KernelRfl
namespace Go.Proofs.Ytpjgoibchknbmab
/- THE CELL 'sum', in the pinned program and in every row, IS THE sha256 OF THE DUMP (.gsa) THAT YtpjgoibchknbmabProg.lean LOADS. Nothing in Lean hashes anything: it is a label: what it is worth is what the hold of that sum in a sandbox is worth. -/
noncomputable def Try.pinned : Pinned := { name := "ytpjgoibchknbmab", sum := "05c24a707850b85e319de9cd114890b6e3f81ebf963c54b040ac7434c8bf9c80", checked := Try.checked }
namespace Rows
def none {H : Type} : Left H := { results := [], args := [] }

/-- 'lidarlaw01.ExactMeets': WHATEVER THE INPUT: true; the input reads as it did. -/
def exactMeetsSpec : ChangeSpec := { name := "exactMeets", fn := fun _ => fun
  | [d1, d2] => { results := [.lit (.bool true)], args := [d1, d2] }
  | _ => none }
def exactMeetsRow : OpenClaim := { program := "ytpjgoibchknbmab", sum := "05c24a707850b85e319de9cd114890b6e3f81ebf963c54b040ac7434c8bf9c80", func := "lidar/lidarlaw01.ExactMeets", spec := "exactMeets", inPlace := ["math/bits.Add64", "math/bits.Sub64"], named := ["math/bits.divideError", "math/bits.overflowError"], apart := false }
def ExactMeetsSaid : Prop := exactMeetsRow.holds Try.pinned (OpenSpec.ofChange exactMeetsSpec)

/-- ITS FALSE NEIGHBOUR: 'it returns false'. Refute it at one input. -/
def exactMeetsWrong : ChangeSpec := { name := "exactMeets", fn := fun _ => fun
  | [d1, d2] => { results := [.lit (.bool false)], args := [d1, d2] }
  | _ => none }
def ExactMeetsWrongFalsely : Prop := exactMeetsRow.holds Try.pinned (OpenSpec.ofChange exactMeetsWrong)

/-- 'lidarlaw01.ExactPlanes': WHATEVER THE INPUT: true; the input reads as it did. -/
def exactPlanesSpec : ChangeSpec := { name := "exactPlanes", fn := fun _ => fun
  | [d] => { results := [.lit (.bool true)], args := [d] }
  | _ => none }
def exactPlanesRow : OpenClaim := { program := "ytpjgoibchknbmab", sum := "05c24a707850b85e319de9cd114890b6e3f81ebf963c54b040ac7434c8bf9c80", func := "lidar/lidarlaw01.ExactPlanes", spec := "exactPlanes", inPlace := ["math/bits.Add64", "math/bits.Sub64"], named := ["math/bits.divideError", "math/bits.overflowError"], apart := false }
def ExactPlanesSaid : Prop := exactPlanesRow.holds Try.pinned (OpenSpec.ofChange exactPlanesSpec)

/-- ITS FALSE NEIGHBOUR: 'it returns false'. Refute it at one input. -/
def exactPlanesWrong : ChangeSpec := { name := "exactPlanes", fn := fun _ => fun
  | [d] => { results := [.lit (.bool false)], args := [d] }
  | _ => none }
def ExactPlanesWrongFalsely : Prop := exactPlanesRow.holds Try.pinned (OpenSpec.ofChange exactPlanesWrong)

/-- 'lidarlaw01.ExactCorners': WHATEVER THE INPUT: true; the input reads as it did. -/
def exactCornersSpec : ChangeSpec := { name := "exactCorners", fn := fun _ => fun
  | [d1, d2, d3] => { results := [.lit (.bool true)], args := [d1, d2, d3] }
  | _ => none }
def exactCornersRow : OpenClaim := { program := "ytpjgoibchknbmab", sum := "05c24a707850b85e319de9cd114890b6e3f81ebf963c54b040ac7434c8bf9c80", func := "lidar/lidarlaw01.ExactCorners", spec := "exactCorners", inPlace := ["math/bits.Add64", "math/bits.Sub64"], named := ["math/bits.divideError", "math/bits.overflowError"], apart := false }
def ExactCornersSaid : Prop := exactCornersRow.holds Try.pinned (OpenSpec.ofChange exactCornersSpec)

/-- ITS FALSE NEIGHBOUR: 'it returns false'. Refute it at one input. -/
def exactCornersWrong : ChangeSpec := { name := "exactCorners", fn := fun _ => fun
  | [d1, d2, d3] => { results := [.lit (.bool false)], args := [d1, d2, d3] }
  | _ => none }
def ExactCornersWrongFalsely : Prop := exactCornersRow.holds Try.pinned (OpenSpec.ofChange exactCornersWrong)

/- THE SECOND FORM. 'bulk': how many values and letters a reading holds, each counted each time it is reached (what is shared counts as often as it is met; a slice's spare places count too). A statement '..UptoSaid' is the law's where the arguments, and the package variables that the reading takes, are together of bulk at most 1048576: NARROWER than '..Said'. Prove '..Said' where nothing that the law and all that it calls make is longer than what came in: it says more and counts as full. Else prove '..UptoSaid'. A law counts once. -/
mutual
def uptoBulk {H : Type} : DataW H → Nat
  | .lit (.string bytes) => bytes.length + 1
  | .lit _ => 1
  | .nil => 1
  | .ptr d => uptoBulk d + 1
  | .slice elems spare => uptoBulkAll elems + uptoBulkAll spare + 1
  | .agg parts => uptoBulkAll parts + 1
  | .iface _ d => uptoBulk d + 1
  | .map entries => uptoBulkEntries entries + 1
  | .held _ => 1
def uptoBulkAll {H : Type} : List (DataW H) → Nat
  | [] => 0
  | d :: r => uptoBulk d + uptoBulkAll r
def uptoBulkEntries {H : Type} : List (Lit × DataW H) → Nat
  | [] => 0
  | x :: r => uptoBulkEntry x + uptoBulkEntries r
def uptoBulkEntry {H : Type} : Lit × DataW H → Nat
  | (.string bytes, d) => bytes.length + uptoBulk d + 1
  | (_, d) => uptoBulk d + 1
 end
def uptoSmall : (H : Type) → List (DataW H) → Bool := fun _ ds => decide (uptoBulkAll ds ≤ 1048576)
def OpenSpec.upto (s : _root_.Go.ChangeSpec) : _root_.Go.OpenSpec := { _root_.Go.OpenSpec.ofChange s with cond := some uptoSmall }

/-- 'lidarlaw01.ExactMeets', WHERE WHAT IT READS IS OF BULK AT MOST 1048576: true; the input reads as it did. -/
def exactMeetsUptoRow : OpenClaim := { program := "ytpjgoibchknbmab", sum := "05c24a707850b85e319de9cd114890b6e3f81ebf963c54b040ac7434c8bf9c80", func := "lidar/lidarlaw01.ExactMeets", spec := "exactMeets", inPlace := ["math/bits.Add64", "math/bits.Sub64"], named := ["math/bits.divideError", "math/bits.overflowError"], apart := false, narrowed := true }
def ExactMeetsUptoSaid : Prop := exactMeetsUptoRow.holds Try.pinned (OpenSpec.upto exactMeetsSpec)

/-- 'lidarlaw01.ExactPlanes', WHERE WHAT IT READS IS OF BULK AT MOST 1048576: true; the input reads as it did. -/
def exactPlanesUptoRow : OpenClaim := { program := "ytpjgoibchknbmab", sum := "05c24a707850b85e319de9cd114890b6e3f81ebf963c54b040ac7434c8bf9c80", func := "lidar/lidarlaw01.ExactPlanes", spec := "exactPlanes", inPlace := ["math/bits.Add64", "math/bits.Sub64"], named := ["math/bits.divideError", "math/bits.overflowError"], apart := false, narrowed := true }
def ExactPlanesUptoSaid : Prop := exactPlanesUptoRow.holds Try.pinned (OpenSpec.upto exactPlanesSpec)

/-- 'lidarlaw01.ExactCorners', WHERE WHAT IT READS IS OF BULK AT MOST 1048576: true; the input reads as it did. -/
def exactCornersUptoRow : OpenClaim := { program := "ytpjgoibchknbmab", sum := "05c24a707850b85e319de9cd114890b6e3f81ebf963c54b040ac7434c8bf9c80", func := "lidar/lidarlaw01.ExactCorners", spec := "exactCorners", inPlace := ["math/bits.Add64", "math/bits.Sub64"], named := ["math/bits.divideError", "math/bits.overflowError"], apart := false, narrowed := true }
def ExactCornersUptoSaid : Prop := exactCornersUptoRow.holds Try.pinned (OpenSpec.upto exactCornersSpec)

end Rows
end Go.Proofs.Ytpjgoibchknbmab
