/-
  No cell of these rows narrows 'for every input' (looked for: loops, veiled, ifaces, maps, wideKeys, modest, calm, conditions, laid).
  DERIVED. THE GIVEN ROWS OF THIS SEAT. 6 by the template 'for every input the law returns true; each argument reads behind the call as it read before'; 0 by the template 'total and deterministic' (their statements: YtifmhecjllpjpaaTotals.lean).
  GIVEN WITH THE SEED: the statements are not yours to turn. If you find one false, say at which input.
  Laid BY PROGRAM, IN A SANDBOX (cutbox-rows.mjs): the forced cells as the released guide's own fill.sh prints them over the translation 1082b71e2fbf7abb… (all of the seat's roots in one cut). By AI agents, Wed Nov 11 2026. No macro, syntax, notation, axiom, sorry.
-/
import Derived.Test.YtifmhecjllpjpaaChecked
import GoSem.Claim
import GoSem.ClaimJoined
import GoSem.ClaimMapViews
import Derived.JoinedTies
import Derived.KernelRfl
namespace Go.Proofs.Ytifmhecjllpjpaa
/- THE CELL 'sum', in the pinned program and in every row, IS THE sha256 OF THE DUMP (.gsa) THAT YtifmhecjllpjpaaProg.lean LOADS. Nothing in Lean hashes anything: it is a label: what it is worth is what the hold of that sum in a sandbox is worth. -/
noncomputable def Try.pinned : Pinned := { name := "ytifmhecjllpjpaa", sum := "1082b71e2fbf7abb1f80ec4bc09846913627eca45532014fc144efe5c23e75bf", checked := Try.checked }
namespace Rows
def none {H : Type} : Left H := { results := [], args := [] }

/-- 'lidarlaw02.LinkCarries': WHATEVER THE INPUT: true; the input reads as it did. -/
def linkCarriesSpec : ChangeSpec := { name := "linkCarries", fn := fun _ => fun
  | [d1, d2] => { results := [.lit (.bool true)], args := [d1, d2] }
  | _ => none }
def linkCarriesRow : OpenClaim := { program := "ytifmhecjllpjpaa", sum := "1082b71e2fbf7abb1f80ec4bc09846913627eca45532014fc144efe5c23e75bf", func := "lidar/lidarlaw02.LinkCarries", spec := "linkCarries", inPlace := ["slices.overlaps[[]byte]"], apart := false }
def LinkCarriesSaid : Prop := linkCarriesRow.holds Try.pinned (OpenSpec.ofChange linkCarriesSpec)

/-- ITS FALSE NEIGHBOUR: 'it returns false'. Refute it at one input. -/
def linkCarriesWrong : ChangeSpec := { name := "linkCarries", fn := fun _ => fun
  | [d1, d2] => { results := [.lit (.bool false)], args := [d1, d2] }
  | _ => none }
def LinkCarriesWrongFalsely : Prop := linkCarriesRow.holds Try.pinned (OpenSpec.ofChange linkCarriesWrong)

/-- 'lidarlaw02.LinkReceives': WHATEVER THE INPUT: true; the input reads as it did. -/
def linkReceivesSpec : ChangeSpec := { name := "linkReceives", fn := fun _ => fun
  | [d1, d2] => { results := [.lit (.bool true)], args := [d1, d2] }
  | _ => none }
def linkReceivesRow : OpenClaim := { program := "ytifmhecjllpjpaa", sum := "1082b71e2fbf7abb1f80ec4bc09846913627eca45532014fc144efe5c23e75bf", func := "lidar/lidarlaw02.LinkReceives", spec := "linkReceives", apart := false }
def LinkReceivesSaid : Prop := linkReceivesRow.holds Try.pinned (OpenSpec.ofChange linkReceivesSpec)

/-- ITS FALSE NEIGHBOUR: 'it returns false'. Refute it at one input. -/
def linkReceivesWrong : ChangeSpec := { name := "linkReceives", fn := fun _ => fun
  | [d1, d2] => { results := [.lit (.bool false)], args := [d1, d2] }
  | _ => none }
def LinkReceivesWrongFalsely : Prop := linkReceivesRow.holds Try.pinned (OpenSpec.ofChange linkReceivesWrong)

/-- 'lidarlaw02.LinkTransfers': WHATEVER THE INPUT: true; the input reads as it did. -/
def linkTransfersSpec : ChangeSpec := { name := "linkTransfers", fn := fun _ => fun
  | [d1, d2, d3] => { results := [.lit (.bool true)], args := [d1, d2, d3] }
  | _ => none }
def linkTransfersRow : OpenClaim := { program := "ytifmhecjllpjpaa", sum := "1082b71e2fbf7abb1f80ec4bc09846913627eca45532014fc144efe5c23e75bf", func := "lidar/lidarlaw02.LinkTransfers", spec := "linkTransfers", inPlace := ["slices.overlaps[[]byte]"], apart := false }
def LinkTransfersSaid : Prop := linkTransfersRow.holds Try.pinned (OpenSpec.ofChange linkTransfersSpec)

/-- ITS FALSE NEIGHBOUR: 'it returns false'. Refute it at one input. -/
def linkTransfersWrong : ChangeSpec := { name := "linkTransfers", fn := fun _ => fun
  | [d1, d2, d3] => { results := [.lit (.bool false)], args := [d1, d2, d3] }
  | _ => none }
def LinkTransfersWrongFalsely : Prop := linkTransfersRow.holds Try.pinned (OpenSpec.ofChange linkTransfersWrong)

/-- 'lidarlaw03.WaveDecodes': WHATEVER THE INPUT: true; the input reads as it did. -/
def waveDecodesSpec : ChangeSpec := { name := "waveDecodes", fn := fun _ => fun
  | [d] => { results := [.lit (.bool true)], args := [d] }
  | _ => none }
def waveDecodesRow : OpenClaim := { program := "ytifmhecjllpjpaa", sum := "1082b71e2fbf7abb1f80ec4bc09846913627eca45532014fc144efe5c23e75bf", func := "lidar/lidarlaw03.WaveDecodes", spec := "waveDecodes", unfollowed := true, recurses := true, apart := false }
def WaveDecodesSaid : Prop := waveDecodesRow.holds Try.pinned (OpenSpec.ofChange waveDecodesSpec)

/-- ITS FALSE NEIGHBOUR: 'it returns false'. Refute it at one input. -/
def waveDecodesWrong : ChangeSpec := { name := "waveDecodes", fn := fun _ => fun
  | [d] => { results := [.lit (.bool false)], args := [d] }
  | _ => none }
def WaveDecodesWrongFalsely : Prop := waveDecodesRow.holds Try.pinned (OpenSpec.ofChange waveDecodesWrong)

/-- 'lidarlaw03.WaveReturnsBack': WHATEVER THE INPUT: true; the input reads as it did. -/
def waveReturnsBackSpec : ChangeSpec := { name := "waveReturnsBack", fn := fun _ => fun
  | [d] => { results := [.lit (.bool true)], args := [d] }
  | _ => none }
def waveReturnsBackRow : OpenClaim := { program := "ytifmhecjllpjpaa", sum := "1082b71e2fbf7abb1f80ec4bc09846913627eca45532014fc144efe5c23e75bf", func := "lidar/lidarlaw03.WaveReturnsBack", spec := "waveReturnsBack", unfollowed := true, recurses := true, apart := false }
def WaveReturnsBackSaid : Prop := waveReturnsBackRow.holds Try.pinned (OpenSpec.ofChange waveReturnsBackSpec)

/-- ITS FALSE NEIGHBOUR: 'it returns false'. Refute it at one input. -/
def waveReturnsBackWrong : ChangeSpec := { name := "waveReturnsBack", fn := fun _ => fun
  | [d] => { results := [.lit (.bool false)], args := [d] }
  | _ => none }
def WaveReturnsBackWrongFalsely : Prop := waveReturnsBackRow.holds Try.pinned (OpenSpec.ofChange waveReturnsBackWrong)

/-- 'lidartop.TopTransfer': WHATEVER THE INPUT: true; the input reads as it did. -/
def topTransferSpec : ChangeSpec := { name := "topTransfer", fn := fun _ => fun
  | [d1, d2, d3] => { results := [.lit (.bool true)], args := [d1, d2, d3] }
  | _ => none }
def topTransferRow : OpenClaim := { program := "ytifmhecjllpjpaa", sum := "1082b71e2fbf7abb1f80ec4bc09846913627eca45532014fc144efe5c23e75bf", func := "lidar/lidartop.TopTransfer", spec := "topTransfer", inPlace := ["slices.overlaps[[]byte]"], apart := false }
def TopTransferSaid : Prop := topTransferRow.holds Try.pinned (OpenSpec.ofChange topTransferSpec)

/-- ITS FALSE NEIGHBOUR: 'it returns false'. Refute it at one input. -/
def topTransferWrong : ChangeSpec := { name := "topTransfer", fn := fun _ => fun
  | [d1, d2, d3] => { results := [.lit (.bool false)], args := [d1, d2, d3] }
  | _ => none }
def TopTransferWrongFalsely : Prop := topTransferRow.holds Try.pinned (OpenSpec.ofChange topTransferWrong)

/- THE SECOND FORM. 'bulk': how many values and letters a reading holds, each counted each time it is reached (what is shared counts as often as it is met; a slice's spare places count too). A statement '..UptoSaid' is the law's where the arguments, and the package variables that the reading takes, are together of bulk at most 1048576: NARROWER than '..Said'. Prove '..Said' where nothing that the law and all that it calls make is longer than what came in: it says more and counts as full. Else prove '..UptoSaid'. A law counts once. -/
mutual
def uptoBulk {H : Type} : DataW H → Nat
  | .lit (.string bytes) => bytes.length + 1
  | .lit _ => 1
  | .nil => 1
  | .ptr d => uptoBulk d + 1
  | .slice elems spare => uptoBulkAll elems + uptoBulkAll spare + 1
  | .agg parts => uptoBulkAll parts + 1
  | .iface _ d => uptoBulk d + 1
  | .map entries => uptoBulkEntries entries + 1
  | .held _ => 1
def uptoBulkAll {H : Type} : List (DataW H) → Nat
  | [] => 0
  | d :: r => uptoBulk d + uptoBulkAll r
def uptoBulkEntries {H : Type} : List (Lit × DataW H) → Nat
  | [] => 0
  | x :: r => uptoBulkEntry x + uptoBulkEntries r
def uptoBulkEntry {H : Type} : Lit × DataW H → Nat
  | (.string bytes, d) => bytes.length + uptoBulk d + 1
  | (_, d) => uptoBulk d + 1
 end
def uptoSmall : (H : Type) → List (DataW H) → Bool := fun _ ds => decide (uptoBulkAll ds ≤ 1048576)
def OpenSpec.upto (s : _root_.Go.ChangeSpec) : _root_.Go.OpenSpec := { _root_.Go.OpenSpec.ofChange s with cond := some uptoSmall }

/-- 'lidarlaw02.LinkCarries', WHERE WHAT IT READS IS OF BULK AT MOST 1048576: true; the input reads as it did. -/
def linkCarriesUptoRow : OpenClaim := { program := "ytifmhecjllpjpaa", sum := "1082b71e2fbf7abb1f80ec4bc09846913627eca45532014fc144efe5c23e75bf", func := "lidar/lidarlaw02.LinkCarries", spec := "linkCarries", inPlace := ["slices.overlaps[[]byte]"], apart := false, narrowed := true }
def LinkCarriesUptoSaid : Prop := linkCarriesUptoRow.holds Try.pinned (OpenSpec.upto linkCarriesSpec)

/-- 'lidarlaw02.LinkReceives', WHERE WHAT IT READS IS OF BULK AT MOST 1048576: true; the input reads as it did. -/
def linkReceivesUptoRow : OpenClaim := { program := "ytifmhecjllpjpaa", sum := "1082b71e2fbf7abb1f80ec4bc09846913627eca45532014fc144efe5c23e75bf", func := "lidar/lidarlaw02.LinkReceives", spec := "linkReceives", apart := false, narrowed := true }
def LinkReceivesUptoSaid : Prop := linkReceivesUptoRow.holds Try.pinned (OpenSpec.upto linkReceivesSpec)

/-- 'lidarlaw02.LinkTransfers', WHERE WHAT IT READS IS OF BULK AT MOST 1048576: true; the input reads as it did. -/
def linkTransfersUptoRow : OpenClaim := { program := "ytifmhecjllpjpaa", sum := "1082b71e2fbf7abb1f80ec4bc09846913627eca45532014fc144efe5c23e75bf", func := "lidar/lidarlaw02.LinkTransfers", spec := "linkTransfers", inPlace := ["slices.overlaps[[]byte]"], apart := false, narrowed := true }
def LinkTransfersUptoSaid : Prop := linkTransfersUptoRow.holds Try.pinned (OpenSpec.upto linkTransfersSpec)

/-- 'lidarlaw03.WaveDecodes', WHERE WHAT IT READS IS OF BULK AT MOST 1048576: true; the input reads as it did. -/
def waveDecodesUptoRow : OpenClaim := { program := "ytifmhecjllpjpaa", sum := "1082b71e2fbf7abb1f80ec4bc09846913627eca45532014fc144efe5c23e75bf", func := "lidar/lidarlaw03.WaveDecodes", spec := "waveDecodes", unfollowed := true, recurses := true, apart := false, narrowed := true }
def WaveDecodesUptoSaid : Prop := waveDecodesUptoRow.holds Try.pinned (OpenSpec.upto waveDecodesSpec)

/-- 'lidarlaw03.WaveReturnsBack', WHERE WHAT IT READS IS OF BULK AT MOST 1048576: true; the input reads as it did. -/
def waveReturnsBackUptoRow : OpenClaim := { program := "ytifmhecjllpjpaa", sum := "1082b71e2fbf7abb1f80ec4bc09846913627eca45532014fc144efe5c23e75bf", func := "lidar/lidarlaw03.WaveReturnsBack", spec := "waveReturnsBack", unfollowed := true, recurses := true, apart := false, narrowed := true }
def WaveReturnsBackUptoSaid : Prop := waveReturnsBackUptoRow.holds Try.pinned (OpenSpec.upto waveReturnsBackSpec)

/-- 'lidartop.TopTransfer', WHERE WHAT IT READS IS OF BULK AT MOST 1048576: true; the input reads as it did. -/
def topTransferUptoRow : OpenClaim := { program := "ytifmhecjllpjpaa", sum := "1082b71e2fbf7abb1f80ec4bc09846913627eca45532014fc144efe5c23e75bf", func := "lidar/lidartop.TopTransfer", spec := "topTransfer", inPlace := ["slices.overlaps[[]byte]"], apart := false, narrowed := true }
def TopTransferUptoSaid : Prop := topTransferUptoRow.holds Try.pinned (OpenSpec.upto topTransferSpec)

end Rows
end Go.Proofs.Ytifmhecjllpjpaa
