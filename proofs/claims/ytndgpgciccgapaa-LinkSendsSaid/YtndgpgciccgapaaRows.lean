/-
  No cell of these rows narrows 'for every input' (looked for: loops, veiled, ifaces, maps, wideKeys, modest, calm, conditions, laid).
  DERIVED. THE GIVEN ROWS OF THIS SEAT. 8 by the template 'for every input the law returns true; each argument reads behind the call as it read before'; 0 by the template 'total and deterministic' (their statements: YtndgpgciccgapaaTotals.lean).
  GIVEN WITH THE SEED: the statements are not yours to turn. If you find one false, say at which input.
  Laid BY PROGRAM, IN A SANDBOX (cutbox-rows.mjs): the forced cells as the released guide's own fill.sh prints them over the translation 5bc52969a6677d3e… (all of the seat's roots in one cut). By AI agents, Wed Nov 11 2026. No macro, syntax, notation, axiom, sorry.
-/
import Derived.Test.YtndgpgciccgapaaChecked
import GoSem.Claim
import GoSem.ClaimJoined
import GoSem.ClaimMapViews
import Derived.JoinedTies
import Derived.KernelRfl
namespace Go.Proofs.Ytndgpgciccgapaa
/- THE CELL 'sum', in the pinned program and in every row, IS THE sha256 OF THE DUMP (.gsa) THAT YtndgpgciccgapaaProg.lean LOADS. Nothing in Lean hashes anything: it is a label: what it is worth is what the hold of that sum in a sandbox is worth. -/
noncomputable def Try.pinned : Pinned := { name := "ytndgpgciccgapaa", sum := "5bc52969a6677d3e8ab23b65c7a0c2395a1a261b610b27a68811189e63cdce20", checked := Try.checked }
namespace Rows
def none {H : Type} : Left H := { results := [], args := [] }

/-- 'lidarlaw02.LinkOnce': WHATEVER THE INPUT: true; the input reads as it did. -/
def linkOnceSpec : ChangeSpec := { name := "linkOnce", fn := fun _ => fun
  | [d1, d2] => { results := [.lit (.bool true)], args := [d1, d2] }
  | _ => none }
def linkOnceRow : OpenClaim := { program := "ytndgpgciccgapaa", sum := "5bc52969a6677d3e8ab23b65c7a0c2395a1a261b610b27a68811189e63cdce20", func := "lidar/lidarlaw02.LinkOnce", spec := "linkOnce", apart := false }
def LinkOnceSaid : Prop := linkOnceRow.holds Try.pinned (OpenSpec.ofChange linkOnceSpec)

/-- ITS FALSE NEIGHBOUR: 'it returns false'. Refute it at one input. -/
def linkOnceWrong : ChangeSpec := { name := "linkOnce", fn := fun _ => fun
  | [d1, d2] => { results := [.lit (.bool false)], args := [d1, d2] }
  | _ => none }
def LinkOnceWrongFalsely : Prop := linkOnceRow.holds Try.pinned (OpenSpec.ofChange linkOnceWrong)

/-- 'lidarlaw02.LinkOrders': WHATEVER THE INPUT: true; the input reads as it did. -/
def linkOrdersSpec : ChangeSpec := { name := "linkOrders", fn := fun _ => fun
  | [d1, d2] => { results := [.lit (.bool true)], args := [d1, d2] }
  | _ => none }
def linkOrdersRow : OpenClaim := { program := "ytndgpgciccgapaa", sum := "5bc52969a6677d3e8ab23b65c7a0c2395a1a261b610b27a68811189e63cdce20", func := "lidar/lidarlaw02.LinkOrders", spec := "linkOrders", apart := false }
def LinkOrdersSaid : Prop := linkOrdersRow.holds Try.pinned (OpenSpec.ofChange linkOrdersSpec)

/-- ITS FALSE NEIGHBOUR: 'it returns false'. Refute it at one input. -/
def linkOrdersWrong : ChangeSpec := { name := "linkOrders", fn := fun _ => fun
  | [d1, d2] => { results := [.lit (.bool false)], args := [d1, d2] }
  | _ => none }
def LinkOrdersWrongFalsely : Prop := linkOrdersRow.holds Try.pinned (OpenSpec.ofChange linkOrdersWrong)

/-- 'lidarlaw02.LinkSends': WHATEVER THE INPUT: true; the input reads as it did. -/
def linkSendsSpec : ChangeSpec := { name := "linkSends", fn := fun _ => fun
  | [d1, d2, d3] => { results := [.lit (.bool true)], args := [d1, d2, d3] }
  | _ => none }
def linkSendsRow : OpenClaim := { program := "ytndgpgciccgapaa", sum := "5bc52969a6677d3e8ab23b65c7a0c2395a1a261b610b27a68811189e63cdce20", func := "lidar/lidarlaw02.LinkSends", spec := "linkSends", apart := false }
def LinkSendsSaid : Prop := linkSendsRow.holds Try.pinned (OpenSpec.ofChange linkSendsSpec)

/-- ITS FALSE NEIGHBOUR: 'it returns false'. Refute it at one input. -/
def linkSendsWrong : ChangeSpec := { name := "linkSends", fn := fun _ => fun
  | [d1, d2, d3] => { results := [.lit (.bool false)], args := [d1, d2, d3] }
  | _ => none }
def LinkSendsWrongFalsely : Prop := linkSendsRow.holds Try.pinned (OpenSpec.ofChange linkSendsWrong)

/-- 'lidarlaw02.LinkReceives': WHATEVER THE INPUT: true; the input reads as it did. -/
def linkReceivesSpec : ChangeSpec := { name := "linkReceives", fn := fun _ => fun
  | [d1, d2] => { results := [.lit (.bool true)], args := [d1, d2] }
  | _ => none }
def linkReceivesRow : OpenClaim := { program := "ytndgpgciccgapaa", sum := "5bc52969a6677d3e8ab23b65c7a0c2395a1a261b610b27a68811189e63cdce20", func := "lidar/lidarlaw02.LinkReceives", spec := "linkReceives", apart := false }
def LinkReceivesSaid : Prop := linkReceivesRow.holds Try.pinned (OpenSpec.ofChange linkReceivesSpec)

/-- ITS FALSE NEIGHBOUR: 'it returns false'. Refute it at one input. -/
def linkReceivesWrong : ChangeSpec := { name := "linkReceives", fn := fun _ => fun
  | [d1, d2] => { results := [.lit (.bool false)], args := [d1, d2] }
  | _ => none }
def LinkReceivesWrongFalsely : Prop := linkReceivesRow.holds Try.pinned (OpenSpec.ofChange linkReceivesWrong)

/-- 'lidarlaw02.LinkCarries': WHATEVER THE INPUT: true; the input reads as it did. -/
def linkCarriesSpec : ChangeSpec := { name := "linkCarries", fn := fun _ => fun
  | [d1, d2] => { results := [.lit (.bool true)], args := [d1, d2] }
  | _ => none }
def linkCarriesRow : OpenClaim := { program := "ytndgpgciccgapaa", sum := "5bc52969a6677d3e8ab23b65c7a0c2395a1a261b610b27a68811189e63cdce20", func := "lidar/lidarlaw02.LinkCarries", spec := "linkCarries", inPlace := ["slices.overlaps[[]byte]"], apart := false }
def LinkCarriesSaid : Prop := linkCarriesRow.holds Try.pinned (OpenSpec.ofChange linkCarriesSpec)

/-- ITS FALSE NEIGHBOUR: 'it returns false'. Refute it at one input. -/
def linkCarriesWrong : ChangeSpec := { name := "linkCarries", fn := fun _ => fun
  | [d1, d2] => { results := [.lit (.bool false)], args := [d1, d2] }
  | _ => none }
def LinkCarriesWrongFalsely : Prop := linkCarriesRow.holds Try.pinned (OpenSpec.ofChange linkCarriesWrong)

/-- 'lidarlaw03.WaveEncodes': WHATEVER THE INPUT: true; the input reads as it did. -/
def waveEncodesSpec : ChangeSpec := { name := "waveEncodes", fn := fun _ => fun
  | [d] => { results := [.lit (.bool true)], args := [d] }
  | _ => none }
def waveEncodesRow : OpenClaim := { program := "ytndgpgciccgapaa", sum := "5bc52969a6677d3e8ab23b65c7a0c2395a1a261b610b27a68811189e63cdce20", func := "lidar/lidarlaw03.WaveEncodes", spec := "waveEncodes", unfollowed := true, recurses := true, apart := false }
def WaveEncodesSaid : Prop := waveEncodesRow.holds Try.pinned (OpenSpec.ofChange waveEncodesSpec)

/-- ITS FALSE NEIGHBOUR: 'it returns false'. Refute it at one input. -/
def waveEncodesWrong : ChangeSpec := { name := "waveEncodes", fn := fun _ => fun
  | [d] => { results := [.lit (.bool false)], args := [d] }
  | _ => none }
def WaveEncodesWrongFalsely : Prop := waveEncodesRow.holds Try.pinned (OpenSpec.ofChange waveEncodesWrong)

/-- 'lidarlaw03.WaveReturnsBack': WHATEVER THE INPUT: true; the input reads as it did. -/
def waveReturnsBackSpec : ChangeSpec := { name := "waveReturnsBack", fn := fun _ => fun
  | [d] => { results := [.lit (.bool true)], args := [d] }
  | _ => none }
def waveReturnsBackRow : OpenClaim := { program := "ytndgpgciccgapaa", sum := "5bc52969a6677d3e8ab23b65c7a0c2395a1a261b610b27a68811189e63cdce20", func := "lidar/lidarlaw03.WaveReturnsBack", spec := "waveReturnsBack", unfollowed := true, recurses := true, apart := false }
def WaveReturnsBackSaid : Prop := waveReturnsBackRow.holds Try.pinned (OpenSpec.ofChange waveReturnsBackSpec)

/-- ITS FALSE NEIGHBOUR: 'it returns false'. Refute it at one input. -/
def waveReturnsBackWrong : ChangeSpec := { name := "waveReturnsBack", fn := fun _ => fun
  | [d] => { results := [.lit (.bool false)], args := [d] }
  | _ => none }
def WaveReturnsBackWrongFalsely : Prop := waveReturnsBackRow.holds Try.pinned (OpenSpec.ofChange waveReturnsBackWrong)

/-- 'lidarlaw03.WaveDecodes': WHATEVER THE INPUT: true; the input reads as it did. -/
def waveDecodesSpec : ChangeSpec := { name := "waveDecodes", fn := fun _ => fun
  | [d] => { results := [.lit (.bool true)], args := [d] }
  | _ => none }
def waveDecodesRow : OpenClaim := { program := "ytndgpgciccgapaa", sum := "5bc52969a6677d3e8ab23b65c7a0c2395a1a261b610b27a68811189e63cdce20", func := "lidar/lidarlaw03.WaveDecodes", spec := "waveDecodes", unfollowed := true, recurses := true, apart := false }
def WaveDecodesSaid : Prop := waveDecodesRow.holds Try.pinned (OpenSpec.ofChange waveDecodesSpec)

/-- ITS FALSE NEIGHBOUR: 'it returns false'. Refute it at one input. -/
def waveDecodesWrong : ChangeSpec := { name := "waveDecodes", fn := fun _ => fun
  | [d] => { results := [.lit (.bool false)], args := [d] }
  | _ => none }
def WaveDecodesWrongFalsely : Prop := waveDecodesRow.holds Try.pinned (OpenSpec.ofChange waveDecodesWrong)

/- THE SECOND FORM. 'bulk': how many values and letters a reading holds, each counted each time it is reached (what is shared counts as often as it is met; a slice's spare places count too). A statement '..UptoSaid' is the law's where the arguments, and the package variables that the reading takes, are together of bulk at most 1048576: NARROWER than '..Said'. Prove '..Said' where nothing that the law and all that it calls make is longer than what came in: it says more and counts as full. Else prove '..UptoSaid'. A law counts once. -/
mutual
def uptoBulk {H : Type} : DataW H → Nat
  | .lit (.string bytes) => bytes.length + 1
  | .lit _ => 1
  | .nil => 1
  | .ptr d => uptoBulk d + 1
  | .slice elems spare => uptoBulkAll elems + uptoBulkAll spare + 1
  | .agg parts => uptoBulkAll parts + 1
  | .iface _ d => uptoBulk d + 1
  | .map entries => uptoBulkEntries entries + 1
  | .held _ => 1
def uptoBulkAll {H : Type} : List (DataW H) → Nat
  | [] => 0
  | d :: r => uptoBulk d + uptoBulkAll r
def uptoBulkEntries {H : Type} : List (Lit × DataW H) → Nat
  | [] => 0
  | x :: r => uptoBulkEntry x + uptoBulkEntries r
def uptoBulkEntry {H : Type} : Lit × DataW H → Nat
  | (.string bytes, d) => bytes.length + uptoBulk d + 1
  | (_, d) => uptoBulk d + 1
 end
def uptoSmall : (H : Type) → List (DataW H) → Bool := fun _ ds => decide (uptoBulkAll ds ≤ 1048576)
def OpenSpec.upto (s : _root_.Go.ChangeSpec) : _root_.Go.OpenSpec := { _root_.Go.OpenSpec.ofChange s with cond := some uptoSmall }

/-- 'lidarlaw02.LinkOnce', WHERE WHAT IT READS IS OF BULK AT MOST 1048576: true; the input reads as it did. -/
def linkOnceUptoRow : OpenClaim := { program := "ytndgpgciccgapaa", sum := "5bc52969a6677d3e8ab23b65c7a0c2395a1a261b610b27a68811189e63cdce20", func := "lidar/lidarlaw02.LinkOnce", spec := "linkOnce", apart := false, narrowed := true }
def LinkOnceUptoSaid : Prop := linkOnceUptoRow.holds Try.pinned (OpenSpec.upto linkOnceSpec)

/-- 'lidarlaw02.LinkOrders', WHERE WHAT IT READS IS OF BULK AT MOST 1048576: true; the input reads as it did. -/
def linkOrdersUptoRow : OpenClaim := { program := "ytndgpgciccgapaa", sum := "5bc52969a6677d3e8ab23b65c7a0c2395a1a261b610b27a68811189e63cdce20", func := "lidar/lidarlaw02.LinkOrders", spec := "linkOrders", apart := false, narrowed := true }
def LinkOrdersUptoSaid : Prop := linkOrdersUptoRow.holds Try.pinned (OpenSpec.upto linkOrdersSpec)

/-- 'lidarlaw02.LinkSends', WHERE WHAT IT READS IS OF BULK AT MOST 1048576: true; the input reads as it did. -/
def linkSendsUptoRow : OpenClaim := { program := "ytndgpgciccgapaa", sum := "5bc52969a6677d3e8ab23b65c7a0c2395a1a261b610b27a68811189e63cdce20", func := "lidar/lidarlaw02.LinkSends", spec := "linkSends", apart := false, narrowed := true }
def LinkSendsUptoSaid : Prop := linkSendsUptoRow.holds Try.pinned (OpenSpec.upto linkSendsSpec)

/-- 'lidarlaw02.LinkReceives', WHERE WHAT IT READS IS OF BULK AT MOST 1048576: true; the input reads as it did. -/
def linkReceivesUptoRow : OpenClaim := { program := "ytndgpgciccgapaa", sum := "5bc52969a6677d3e8ab23b65c7a0c2395a1a261b610b27a68811189e63cdce20", func := "lidar/lidarlaw02.LinkReceives", spec := "linkReceives", apart := false, narrowed := true }
def LinkReceivesUptoSaid : Prop := linkReceivesUptoRow.holds Try.pinned (OpenSpec.upto linkReceivesSpec)

/-- 'lidarlaw02.LinkCarries', WHERE WHAT IT READS IS OF BULK AT MOST 1048576: true; the input reads as it did. -/
def linkCarriesUptoRow : OpenClaim := { program := "ytndgpgciccgapaa", sum := "5bc52969a6677d3e8ab23b65c7a0c2395a1a261b610b27a68811189e63cdce20", func := "lidar/lidarlaw02.LinkCarries", spec := "linkCarries", inPlace := ["slices.overlaps[[]byte]"], apart := false, narrowed := true }
def LinkCarriesUptoSaid : Prop := linkCarriesUptoRow.holds Try.pinned (OpenSpec.upto linkCarriesSpec)

/-- 'lidarlaw03.WaveEncodes', WHERE WHAT IT READS IS OF BULK AT MOST 1048576: true; the input reads as it did. -/
def waveEncodesUptoRow : OpenClaim := { program := "ytndgpgciccgapaa", sum := "5bc52969a6677d3e8ab23b65c7a0c2395a1a261b610b27a68811189e63cdce20", func := "lidar/lidarlaw03.WaveEncodes", spec := "waveEncodes", unfollowed := true, recurses := true, apart := false, narrowed := true }
def WaveEncodesUptoSaid : Prop := waveEncodesUptoRow.holds Try.pinned (OpenSpec.upto waveEncodesSpec)

/-- 'lidarlaw03.WaveReturnsBack', WHERE WHAT IT READS IS OF BULK AT MOST 1048576: true; the input reads as it did. -/
def waveReturnsBackUptoRow : OpenClaim := { program := "ytndgpgciccgapaa", sum := "5bc52969a6677d3e8ab23b65c7a0c2395a1a261b610b27a68811189e63cdce20", func := "lidar/lidarlaw03.WaveReturnsBack", spec := "waveReturnsBack", unfollowed := true, recurses := true, apart := false, narrowed := true }
def WaveReturnsBackUptoSaid : Prop := waveReturnsBackUptoRow.holds Try.pinned (OpenSpec.upto waveReturnsBackSpec)

/-- 'lidarlaw03.WaveDecodes', WHERE WHAT IT READS IS OF BULK AT MOST 1048576: true; the input reads as it did. -/
def waveDecodesUptoRow : OpenClaim := { program := "ytndgpgciccgapaa", sum := "5bc52969a6677d3e8ab23b65c7a0c2395a1a261b610b27a68811189e63cdce20", func := "lidar/lidarlaw03.WaveDecodes", spec := "waveDecodes", unfollowed := true, recurses := true, apart := false, narrowed := true }
def WaveDecodesUptoSaid : Prop := waveDecodesUptoRow.holds Try.pinned (OpenSpec.upto waveDecodesSpec)

end Rows
end Go.Proofs.Ytndgpgciccgapaa
