/-
  No cell of these rows narrows 'for every input' (looked for: loops, veiled, ifaces, maps, wideKeys, modest, calm, conditions, laid).
  DERIVED. THE GIVEN ROWS OF THIS SEAT. 3 by the template 'for every input the law returns true; each argument reads behind the call as it read before'; 0 by the template 'total and deterministic' (their statements: YtdmopmgabieciabTotals.lean).
  GIVEN WITH THE SEED: the statements are not yours to turn. If you find one false, say at which input.
  Laid BY PROGRAM, IN A SANDBOX (cutbox-rows.mjs): the forced cells as the released guide's own fill.sh prints them over the translation 8563ccde6ee9c9c4… (all of the seat's roots in one cut). By AI agents, Wed Nov 11 2026. No macro, syntax, notation, axiom, sorry.
-/
import Derived.Test.YtdmopmgabieciabChecked
import GoSem.Claim
import GoSem.ClaimJoined
import GoSem.ClaimMapViews
import Derived.JoinedTies
import Derived.KernelRfl
namespace Go.Proofs.Ytdmopmgabieciab
/- THE CELL 'sum', in the pinned program and in every row, IS THE sha256 OF THE DUMP (.gsa) THAT YtdmopmgabieciabProg.lean LOADS. Nothing in Lean hashes anything: it is a label: what it is worth is what the hold of that sum in a sandbox is worth. -/
noncomputable def Try.pinned : Pinned := { name := "ytdmopmgabieciab", sum := "8563ccde6ee9c9c4998a5341dcbb1c2cf5c0cf5058edcfdcb40bba6b3d56e4ed", checked := Try.checked }
namespace Rows
def none {H : Type} : Left H := { results := [], args := [] }

/-- 'lidarlaw04.TrackMany': WHATEVER THE INPUT: true; the input reads as it did. -/
def trackManySpec : ChangeSpec := { name := "trackMany", fn := fun _ => fun
  | [d1, d2] => { results := [.lit (.bool true)], args := [d1, d2] }
  | _ => none }
def trackManyRow : OpenClaim := { program := "ytdmopmgabieciab", sum := "8563ccde6ee9c9c4998a5341dcbb1c2cf5c0cf5058edcfdcb40bba6b3d56e4ed", func := "lidar/lidarlaw04.TrackMany", spec := "trackMany", unfollowed := true, recurses := true, plainKeys := false, apart := false }
def TrackManySaid : Prop := trackManyRow.holds Try.pinned (OpenSpec.ofChange trackManySpec)

/-- ITS FALSE NEIGHBOUR: 'it returns false'. Refute it at one input. -/
def trackManyWrong : ChangeSpec := { name := "trackMany", fn := fun _ => fun
  | [d1, d2] => { results := [.lit (.bool false)], args := [d1, d2] }
  | _ => none }
def TrackManyWrongFalsely : Prop := trackManyRow.holds Try.pinned (OpenSpec.ofChange trackManyWrong)

/-- 'lidarlaw04.TrackPoses': WHATEVER THE INPUT: true; the input reads as it did. -/
def trackPosesSpec : ChangeSpec := { name := "trackPoses", fn := fun _ => fun
  | [d1, d2, d3] => { results := [.lit (.bool true)], args := [d1, d2, d3] }
  | _ => none }
def trackPosesRow : OpenClaim := { program := "ytdmopmgabieciab", sum := "8563ccde6ee9c9c4998a5341dcbb1c2cf5c0cf5058edcfdcb40bba6b3d56e4ed", func := "lidar/lidarlaw04.TrackPoses", spec := "trackPoses", unfollowed := true, recurses := true, plainKeys := false, apart := false }
def TrackPosesSaid : Prop := trackPosesRow.holds Try.pinned (OpenSpec.ofChange trackPosesSpec)

/-- ITS FALSE NEIGHBOUR: 'it returns false'. Refute it at one input. -/
def trackPosesWrong : ChangeSpec := { name := "trackPoses", fn := fun _ => fun
  | [d1, d2, d3] => { results := [.lit (.bool false)], args := [d1, d2, d3] }
  | _ => none }
def TrackPosesWrongFalsely : Prop := trackPosesRow.holds Try.pinned (OpenSpec.ofChange trackPosesWrong)

/-- 'lidarlaw04.TrackMoves': WHATEVER THE INPUT: true; the input reads as it did. -/
def trackMovesSpec : ChangeSpec := { name := "trackMoves", fn := fun _ => fun
  | [d] => { results := [.lit (.bool true)], args := [d] }
  | _ => none }
def trackMovesRow : OpenClaim := { program := "ytdmopmgabieciab", sum := "8563ccde6ee9c9c4998a5341dcbb1c2cf5c0cf5058edcfdcb40bba6b3d56e4ed", func := "lidar/lidarlaw04.TrackMoves", spec := "trackMoves", unfollowed := true, recurses := true, plainKeys := false, apart := false }
def TrackMovesSaid : Prop := trackMovesRow.holds Try.pinned (OpenSpec.ofChange trackMovesSpec)

/-- ITS FALSE NEIGHBOUR: 'it returns false'. Refute it at one input. -/
def trackMovesWrong : ChangeSpec := { name := "trackMoves", fn := fun _ => fun
  | [d] => { results := [.lit (.bool false)], args := [d] }
  | _ => none }
def TrackMovesWrongFalsely : Prop := trackMovesRow.holds Try.pinned (OpenSpec.ofChange trackMovesWrong)

/- THE SECOND FORM. 'bulk': how many values and letters a reading holds, each counted each time it is reached (what is shared counts as often as it is met; a slice's spare places count too). A statement '..UptoSaid' is the law's where the arguments, and the package variables that the reading takes, are together of bulk at most 1048576: NARROWER than '..Said'. Prove '..Said' where nothing that the law and all that it calls make is longer than what came in: it says more and counts as full. Else prove '..UptoSaid'. A law counts once. -/
mutual
def uptoBulk {H : Type} : DataW H → Nat
  | .lit (.string bytes) => bytes.length + 1
  | .lit _ => 1
  | .nil => 1
  | .ptr d => uptoBulk d + 1
  | .slice elems spare => uptoBulkAll elems + uptoBulkAll spare + 1
  | .agg parts => uptoBulkAll parts + 1
  | .iface _ d => uptoBulk d + 1
  | .map entries => uptoBulkEntries entries + 1
  | .held _ => 1
def uptoBulkAll {H : Type} : List (DataW H) → Nat
  | [] => 0
  | d :: r => uptoBulk d + uptoBulkAll r
def uptoBulkEntries {H : Type} : List (Lit × DataW H) → Nat
  | [] => 0
  | x :: r => uptoBulkEntry x + uptoBulkEntries r
def uptoBulkEntry {H : Type} : Lit × DataW H → Nat
  | (.string bytes, d) => bytes.length + uptoBulk d + 1
  | (_, d) => uptoBulk d + 1
 end
def uptoSmall : (H : Type) → List (DataW H) → Bool := fun _ ds => decide (uptoBulkAll ds ≤ 1048576)
def OpenSpec.upto (s : _root_.Go.ChangeSpec) : _root_.Go.OpenSpec := { _root_.Go.OpenSpec.ofChange s with cond := some uptoSmall }

/-- 'lidarlaw04.TrackMany', WHERE WHAT IT READS IS OF BULK AT MOST 1048576: true; the input reads as it did. -/
def trackManyUptoRow : OpenClaim := { program := "ytdmopmgabieciab", sum := "8563ccde6ee9c9c4998a5341dcbb1c2cf5c0cf5058edcfdcb40bba6b3d56e4ed", func := "lidar/lidarlaw04.TrackMany", spec := "trackMany", unfollowed := true, recurses := true, plainKeys := false, apart := false, narrowed := true }
def TrackManyUptoSaid : Prop := trackManyUptoRow.holds Try.pinned (OpenSpec.upto trackManySpec)

/-- 'lidarlaw04.TrackPoses', WHERE WHAT IT READS IS OF BULK AT MOST 1048576: true; the input reads as it did. -/
def trackPosesUptoRow : OpenClaim := { program := "ytdmopmgabieciab", sum := "8563ccde6ee9c9c4998a5341dcbb1c2cf5c0cf5058edcfdcb40bba6b3d56e4ed", func := "lidar/lidarlaw04.TrackPoses", spec := "trackPoses", unfollowed := true, recurses := true, plainKeys := false, apart := false, narrowed := true }
def TrackPosesUptoSaid : Prop := trackPosesUptoRow.holds Try.pinned (OpenSpec.upto trackPosesSpec)

/-- 'lidarlaw04.TrackMoves', WHERE WHAT IT READS IS OF BULK AT MOST 1048576: true; the input reads as it did. -/
def trackMovesUptoRow : OpenClaim := { program := "ytdmopmgabieciab", sum := "8563ccde6ee9c9c4998a5341dcbb1c2cf5c0cf5058edcfdcb40bba6b3d56e4ed", func := "lidar/lidarlaw04.TrackMoves", spec := "trackMoves", unfollowed := true, recurses := true, plainKeys := false, apart := false, narrowed := true }
def TrackMovesUptoSaid : Prop := trackMovesUptoRow.holds Try.pinned (OpenSpec.upto trackMovesSpec)

end Rows
end Go.Proofs.Ytdmopmgabieciab
