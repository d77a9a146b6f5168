/-
  No cell of these rows narrows 'for every input' (looked for: loops, veiled, ifaces, maps, wideKeys, modest, calm, conditions, laid).
  DERIVED. THE GIVEN ROWS OF THIS SEAT. 2 by the template 'for every input the law returns true; each argument reads behind the call as it read before'; 0 by the template 'total and deterministic' (their statements: YtfalhfgnobjfgaaTotals.lean).
  GIVEN WITH THE SEED: the statements are not yours to turn. If you find one false, say at which input.
  Laid BY PROGRAM, IN A SANDBOX (cutbox-rows.mjs): the forced cells as the released guide's own fill.sh prints them over the translation a738bd2ecdb1949f… (all of the seat's roots in one cut). By AI agents, Wed Nov 11 2026. No macro, syntax, notation, axiom, sorry.
-/
import Derived.Test.YtfalhfgnobjfgaaChecked
import GoSem.Claim
import GoSem.ClaimJoined
import GoSem.ClaimMapViews
import Derived.JoinedTies
import Derived.KernelRfl
namespace Go.Proofs.Ytfalhfgnobjfgaa
/- THE CELL 'sum', in the pinned program and in every row, IS THE sha256 OF THE DUMP (.gsa) THAT YtfalhfgnobjfgaaProg.lean LOADS. Nothing in Lean hashes anything: it is a label: what it is worth is what the hold of that sum in a sandbox is worth. -/
noncomputable def Try.pinned : Pinned := { name := "ytfalhfgnobjfgaa", sum := "a738bd2ecdb1949f458527d16b7979fedc47edcc37fc4a7c2e0cab706013f087", checked := Try.checked }
namespace Rows
def none {H : Type} : Left H := { results := [], args := [] }

/-- 'lidarlaw04.TrackEncodes': WHATEVER THE INPUT: true; the input reads as it did. -/
def trackEncodesSpec : ChangeSpec := { name := "trackEncodes", fn := fun _ => fun
  | [d] => { results := [.lit (.bool true)], args := [d] }
  | _ => none }
def trackEncodesRow : OpenClaim := { program := "ytfalhfgnobjfgaa", sum := "a738bd2ecdb1949f458527d16b7979fedc47edcc37fc4a7c2e0cab706013f087", func := "lidar/lidarlaw04.TrackEncodes", spec := "trackEncodes", unfollowed := true, recurses := true, apart := false }
def TrackEncodesSaid : Prop := trackEncodesRow.holds Try.pinned (OpenSpec.ofChange trackEncodesSpec)

/-- ITS FALSE NEIGHBOUR: 'it returns false'. Refute it at one input. -/
def trackEncodesWrong : ChangeSpec := { name := "trackEncodes", fn := fun _ => fun
  | [d] => { results := [.lit (.bool false)], args := [d] }
  | _ => none }
def TrackEncodesWrongFalsely : Prop := trackEncodesRow.holds Try.pinned (OpenSpec.ofChange trackEncodesWrong)

/-- 'lidarlaw04.TrackDecodes': WHATEVER THE INPUT: true; the input reads as it did. -/
def trackDecodesSpec : ChangeSpec := { name := "trackDecodes", fn := fun _ => fun
  | [d] => { results := [.lit (.bool true)], args := [d] }
  | _ => none }
def trackDecodesRow : OpenClaim := { program := "ytfalhfgnobjfgaa", sum := "a738bd2ecdb1949f458527d16b7979fedc47edcc37fc4a7c2e0cab706013f087", func := "lidar/lidarlaw04.TrackDecodes", spec := "trackDecodes", unfollowed := true, recurses := true, apart := false }
def TrackDecodesSaid : Prop := trackDecodesRow.holds Try.pinned (OpenSpec.ofChange trackDecodesSpec)

/-- ITS FALSE NEIGHBOUR: 'it returns false'. Refute it at one input. -/
def trackDecodesWrong : ChangeSpec := { name := "trackDecodes", fn := fun _ => fun
  | [d] => { results := [.lit (.bool false)], args := [d] }
  | _ => none }
def TrackDecodesWrongFalsely : Prop := trackDecodesRow.holds Try.pinned (OpenSpec.ofChange trackDecodesWrong)

/- THE SECOND FORM. 'bulk': how many values and letters a reading holds, each counted each time it is reached (what is shared counts as often as it is met; a slice's spare places count too). A statement '..UptoSaid' is the law's where the arguments, and the package variables that the reading takes, are together of bulk at most 1048576: NARROWER than '..Said'. Prove '..Said' where nothing that the law and all that it calls make is longer than what came in: it says more and counts as full. Else prove '..UptoSaid'. A law counts once. -/
mutual
def uptoBulk {H : Type} : DataW H → Nat
  | .lit (.string bytes) => bytes.length + 1
  | .lit _ => 1
  | .nil => 1
  | .ptr d => uptoBulk d + 1
  | .slice elems spare => uptoBulkAll elems + uptoBulkAll spare + 1
  | .agg parts => uptoBulkAll parts + 1
  | .iface _ d => uptoBulk d + 1
  | .map entries => uptoBulkEntries entries + 1
  | .held _ => 1
def uptoBulkAll {H : Type} : List (DataW H) → Nat
  | [] => 0
  | d :: r => uptoBulk d + uptoBulkAll r
def uptoBulkEntries {H : Type} : List (Lit × DataW H) → Nat
  | [] => 0
  | x :: r => uptoBulkEntry x + uptoBulkEntries r
def uptoBulkEntry {H : Type} : Lit × DataW H → Nat
  | (.string bytes, d) => bytes.length + uptoBulk d + 1
  | (_, d) => uptoBulk d + 1
 end
def uptoSmall : (H : Type) → List (DataW H) → Bool := fun _ ds => decide (uptoBulkAll ds ≤ 1048576)
def OpenSpec.upto (s : _root_.Go.ChangeSpec) : _root_.Go.OpenSpec := { _root_.Go.OpenSpec.ofChange s with cond := some uptoSmall }

/-- 'lidarlaw04.TrackEncodes', WHERE WHAT IT READS IS OF BULK AT MOST 1048576: true; the input reads as it did. -/
def trackEncodesUptoRow : OpenClaim := { program := "ytfalhfgnobjfgaa", sum := "a738bd2ecdb1949f458527d16b7979fedc47edcc37fc4a7c2e0cab706013f087", func := "lidar/lidarlaw04.TrackEncodes", spec := "trackEncodes", unfollowed := true, recurses := true, apart := false, narrowed := true }
def TrackEncodesUptoSaid : Prop := trackEncodesUptoRow.holds Try.pinned (OpenSpec.upto trackEncodesSpec)

/-- 'lidarlaw04.TrackDecodes', WHERE WHAT IT READS IS OF BULK AT MOST 1048576: true; the input reads as it did. -/
def trackDecodesUptoRow : OpenClaim := { program := "ytfalhfgnobjfgaa", sum := "a738bd2ecdb1949f458527d16b7979fedc47edcc37fc4a7c2e0cab706013f087", func := "lidar/lidarlaw04.TrackDecodes", spec := "trackDecodes", unfollowed := true, recurses := true, apart := false, narrowed := true }
def TrackDecodesUptoSaid : Prop := trackDecodesUptoRow.holds Try.pinned (OpenSpec.upto trackDecodesSpec)

end Rows
end Go.Proofs.Ytfalhfgnobjfgaa
