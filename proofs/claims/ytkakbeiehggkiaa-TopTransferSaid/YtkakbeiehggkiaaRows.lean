/-
  No cell of these rows narrows 'for every input' (looked for: loops, veiled, ifaces, maps, wideKeys, modest, calm, conditions, laid).
  DERIVED. THE GIVEN ROWS OF THIS SEAT. 7 by the template 'for every input the law returns true; each argument reads behind the call as it read before'; 0 by the template 'total and deterministic' (their statements: YtkakbeiehggkiaaTotals.lean).
  GIVEN WITH THE SEED: the statements are not yours to turn. If you find one false, say at which input.
  Laid BY PROGRAM, IN A SANDBOX (cutbox-rows.mjs): the forced cells as the released guide's own fill.sh prints them over the translation 349c06524f3864c9… (all of the seat's roots in one cut). By AI agents, Wed Nov 11 2026. No macro, syntax, notation, axiom, sorry.
-/
import Derived.Test.YtkakbeiehggkiaaChecked
import GoSem.Claim
import GoSem.ClaimJoined
import GoSem.ClaimMapViews
import Derived.JoinedTies
import Derived.KernelRfl
namespace Go.Proofs.Ytkakbeiehggkiaa
/- THE CELL 'sum', in the pinned program and in every row, IS THE sha256 OF THE DUMP (.gsa) THAT YtkakbeiehggkiaaProg.lean LOADS. Nothing in Lean hashes anything: it is a label: what it is worth is what the hold of that sum in a sandbox is worth. -/
noncomputable def Try.pinned : Pinned := { name := "ytkakbeiehggkiaa", sum := "349c06524f3864c960582693aa7f5a7c2f7258077962196e1898a9a9f525706a", checked := Try.checked }
namespace Rows
def none {H : Type} : Left H := { results := [], args := [] }

/-- 'lidarlaw02.LinkReceives': WHATEVER THE INPUT: true; the input reads as it did. -/
def linkReceivesSpec : ChangeSpec := { name := "linkReceives", fn := fun _ => fun
  | [d1, d2] => { results := [.lit (.bool true)], args := [d1, d2] }
  | _ => none }
def linkReceivesRow : OpenClaim := { program := "ytkakbeiehggkiaa", sum := "349c06524f3864c960582693aa7f5a7c2f7258077962196e1898a9a9f525706a", func := "lidar/lidarlaw02.LinkReceives", spec := "linkReceives", apart := false }
def LinkReceivesSaid : Prop := linkReceivesRow.holds Try.pinned (OpenSpec.ofChange linkReceivesSpec)

/-- ITS FALSE NEIGHBOUR: 'it returns false'. Refute it at one input. -/
def linkReceivesWrong : ChangeSpec := { name := "linkReceives", fn := fun _ => fun
  | [d1, d2] => { results := [.lit (.bool false)], args := [d1, d2] }
  | _ => none }
def LinkReceivesWrongFalsely : Prop := linkReceivesRow.holds Try.pinned (OpenSpec.ofChange linkReceivesWrong)

/-- 'lidarlaw02.LinkSends': WHATEVER THE INPUT: true; the input reads as it did. -/
def linkSendsSpec : ChangeSpec := { name := "linkSends", fn := fun _ => fun
  | [d1, d2, d3] => { results := [.lit (.bool true)], args := [d1, d2, d3] }
  | _ => none }
def linkSendsRow : OpenClaim := { program := "ytkakbeiehggkiaa", sum := "349c06524f3864c960582693aa7f5a7c2f7258077962196e1898a9a9f525706a", func := "lidar/lidarlaw02.LinkSends", spec := "linkSends", apart := false }
def LinkSendsSaid : Prop := linkSendsRow.holds Try.pinned (OpenSpec.ofChange linkSendsSpec)

/-- ITS FALSE NEIGHBOUR: 'it returns false'. Refute it at one input. -/
def linkSendsWrong : ChangeSpec := { name := "linkSends", fn := fun _ => fun
  | [d1, d2, d3] => { results := [.lit (.bool false)], args := [d1, d2, d3] }
  | _ => none }
def LinkSendsWrongFalsely : Prop := linkSendsRow.holds Try.pinned (OpenSpec.ofChange linkSendsWrong)

/-- 'lidarlaw02.LinkReads': WHATEVER THE INPUT: true; the input reads as it did. -/
def linkReadsSpec : ChangeSpec := { name := "linkReads", fn := fun _ => fun
  | [d] => { results := [.lit (.bool true)], args := [d] }
  | _ => none }
def linkReadsRow : OpenClaim := { program := "ytkakbeiehggkiaa", sum := "349c06524f3864c960582693aa7f5a7c2f7258077962196e1898a9a9f525706a", func := "lidar/lidarlaw02.LinkReads", spec := "linkReads", apart := false }
def LinkReadsSaid : Prop := linkReadsRow.holds Try.pinned (OpenSpec.ofChange linkReadsSpec)

/-- ITS FALSE NEIGHBOUR: 'it returns false'. Refute it at one input. -/
def linkReadsWrong : ChangeSpec := { name := "linkReads", fn := fun _ => fun
  | [d] => { results := [.lit (.bool false)], args := [d] }
  | _ => none }
def LinkReadsWrongFalsely : Prop := linkReadsRow.holds Try.pinned (OpenSpec.ofChange linkReadsWrong)

/-- 'lidarlaw02.LinkNumbers': WHATEVER THE INPUT: true; the input reads as it did. -/
def linkNumbersSpec : ChangeSpec := { name := "linkNumbers", fn := fun _ => fun
  | [d1, d2, d3] => { results := [.lit (.bool true)], args := [d1, d2, d3] }
  | _ => none }
def linkNumbersRow : OpenClaim := { program := "ytkakbeiehggkiaa", sum := "349c06524f3864c960582693aa7f5a7c2f7258077962196e1898a9a9f525706a", func := "lidar/lidarlaw02.LinkNumbers", spec := "linkNumbers", apart := false }
def LinkNumbersSaid : Prop := linkNumbersRow.holds Try.pinned (OpenSpec.ofChange linkNumbersSpec)

/-- ITS FALSE NEIGHBOUR: 'it returns false'. Refute it at one input. -/
def linkNumbersWrong : ChangeSpec := { name := "linkNumbers", fn := fun _ => fun
  | [d1, d2, d3] => { results := [.lit (.bool false)], args := [d1, d2, d3] }
  | _ => none }
def LinkNumbersWrongFalsely : Prop := linkNumbersRow.holds Try.pinned (OpenSpec.ofChange linkNumbersWrong)

/-- 'lidarlaw02.LinkCarries': WHATEVER THE INPUT: true; the input reads as it did. -/
def linkCarriesSpec : ChangeSpec := { name := "linkCarries", fn := fun _ => fun
  | [d1, d2] => { results := [.lit (.bool true)], args := [d1, d2] }
  | _ => none }
def linkCarriesRow : OpenClaim := { program := "ytkakbeiehggkiaa", sum := "349c06524f3864c960582693aa7f5a7c2f7258077962196e1898a9a9f525706a", func := "lidar/lidarlaw02.LinkCarries", spec := "linkCarries", inPlace := ["slices.overlaps[[]byte]"], apart := false }
def LinkCarriesSaid : Prop := linkCarriesRow.holds Try.pinned (OpenSpec.ofChange linkCarriesSpec)

/-- ITS FALSE NEIGHBOUR: 'it returns false'. Refute it at one input. -/
def linkCarriesWrong : ChangeSpec := { name := "linkCarries", fn := fun _ => fun
  | [d1, d2] => { results := [.lit (.bool false)], args := [d1, d2] }
  | _ => none }
def LinkCarriesWrongFalsely : Prop := linkCarriesRow.holds Try.pinned (OpenSpec.ofChange linkCarriesWrong)

/-- 'lidarlaw02.LinkTransfers': WHATEVER THE INPUT: true; the input reads as it did. -/
def linkTransfersSpec : ChangeSpec := { name := "linkTransfers", fn := fun _ => fun
  | [d1, d2, d3] => { results := [.lit (.bool true)], args := [d1, d2, d3] }
  | _ => none }
def linkTransfersRow : OpenClaim := { program := "ytkakbeiehggkiaa", sum := "349c06524f3864c960582693aa7f5a7c2f7258077962196e1898a9a9f525706a", func := "lidar/lidarlaw02.LinkTransfers", spec := "linkTransfers", inPlace := ["slices.overlaps[[]byte]"], apart := false }
def LinkTransfersSaid : Prop := linkTransfersRow.holds Try.pinned (OpenSpec.ofChange linkTransfersSpec)

/-- ITS FALSE NEIGHBOUR: 'it returns false'. Refute it at one input. -/
def linkTransfersWrong : ChangeSpec := { name := "linkTransfers", fn := fun _ => fun
  | [d1, d2, d3] => { results := [.lit (.bool false)], args := [d1, d2, d3] }
  | _ => none }
def LinkTransfersWrongFalsely : Prop := linkTransfersRow.holds Try.pinned (OpenSpec.ofChange linkTransfersWrong)

/-- 'lidartop.TopTransfer': WHATEVER THE INPUT: true; the input reads as it did. -/
def topTransferSpec : ChangeSpec := { name := "topTransfer", fn := fun _ => fun
  | [d1, d2, d3] => { results := [.lit (.bool true)], args := [d1, d2, d3] }
  | _ => none }
def topTransferRow : OpenClaim := { program := "ytkakbeiehggkiaa", sum := "349c06524f3864c960582693aa7f5a7c2f7258077962196e1898a9a9f525706a", func := "lidar/lidartop.TopTransfer", spec := "topTransfer", inPlace := ["slices.overlaps[[]byte]"], apart := false }
def TopTransferSaid : Prop := topTransferRow.holds Try.pinned (OpenSpec.ofChange topTransferSpec)

/-- ITS FALSE NEIGHBOUR: 'it returns false'. Refute it at one input. -/
def topTransferWrong : ChangeSpec := { name := "topTransfer", fn := fun _ => fun
  | [d1, d2, d3] => { results := [.lit (.bool false)], args := [d1, d2, d3] }
  | _ => none }
def TopTransferWrongFalsely : Prop := topTransferRow.holds Try.pinned (OpenSpec.ofChange topTransferWrong)

/- THE SECOND FORM. 'bulk': how many values and letters a reading holds, each counted each time it is reached (what is shared counts as often as it is met; a slice's spare places count too). A statement '..UptoSaid' is the law's where the arguments, and the package variables that the reading takes, are together of bulk at most 1048576: NARROWER than '..Said'. Prove '..Said' where nothing that the law and all that it calls make is longer than what came in: it says more and counts as full. Else prove '..UptoSaid'. A law counts once. -/
mutual
def uptoBulk {H : Type} : DataW H → Nat
  | .lit (.string bytes) => bytes.length + 1
  | .lit _ => 1
  | .nil => 1
  | .ptr d => uptoBulk d + 1
  | .slice elems spare => uptoBulkAll elems + uptoBulkAll spare + 1
  | .agg parts => uptoBulkAll parts + 1
  | .iface _ d => uptoBulk d + 1
  | .map entries => uptoBulkEntries entries + 1
  | .held _ => 1
def uptoBulkAll {H : Type} : List (DataW H) → Nat
  | [] => 0
  | d :: r => uptoBulk d + uptoBulkAll r
def uptoBulkEntries {H : Type} : List (Lit × DataW H) → Nat
  | [] => 0
  | x :: r => uptoBulkEntry x + uptoBulkEntries r
def uptoBulkEntry {H : Type} : Lit × DataW H → Nat
  | (.string bytes, d) => bytes.length + uptoBulk d + 1
  | (_, d) => uptoBulk d + 1
 end
def uptoSmall : (H : Type) → List (DataW H) → Bool := fun _ ds => decide (uptoBulkAll ds ≤ 1048576)
def OpenSpec.upto (s : _root_.Go.ChangeSpec) : _root_.Go.OpenSpec := { _root_.Go.OpenSpec.ofChange s with cond := some uptoSmall }

/-- 'lidarlaw02.LinkReceives', WHERE WHAT IT READS IS OF BULK AT MOST 1048576: true; the input reads as it did. -/
def linkReceivesUptoRow : OpenClaim := { program := "ytkakbeiehggkiaa", sum := "349c06524f3864c960582693aa7f5a7c2f7258077962196e1898a9a9f525706a", func := "lidar/lidarlaw02.LinkReceives", spec := "linkReceives", apart := false, narrowed := true }
def LinkReceivesUptoSaid : Prop := linkReceivesUptoRow.holds Try.pinned (OpenSpec.upto linkReceivesSpec)

/-- 'lidarlaw02.LinkSends', WHERE WHAT IT READS IS OF BULK AT MOST 1048576: true; the input reads as it did. -/
def linkSendsUptoRow : OpenClaim := { program := "ytkakbeiehggkiaa", sum := "349c06524f3864c960582693aa7f5a7c2f7258077962196e1898a9a9f525706a", func := "lidar/lidarlaw02.LinkSends", spec := "linkSends", apart := false, narrowed := true }
def LinkSendsUptoSaid : Prop := linkSendsUptoRow.holds Try.pinned (OpenSpec.upto linkSendsSpec)

/-- 'lidarlaw02.LinkReads', WHERE WHAT IT READS IS OF BULK AT MOST 1048576: true; the input reads as it did. -/
def linkReadsUptoRow : OpenClaim := { program := "ytkakbeiehggkiaa", sum := "349c06524f3864c960582693aa7f5a7c2f7258077962196e1898a9a9f525706a", func := "lidar/lidarlaw02.LinkReads", spec := "linkReads", apart := false, narrowed := true }
def LinkReadsUptoSaid : Prop := linkReadsUptoRow.holds Try.pinned (OpenSpec.upto linkReadsSpec)

/-- 'lidarlaw02.LinkNumbers', WHERE WHAT IT READS IS OF BULK AT MOST 1048576: true; the input reads as it did. -/
def linkNumbersUptoRow : OpenClaim := { program := "ytkakbeiehggkiaa", sum := "349c06524f3864c960582693aa7f5a7c2f7258077962196e1898a9a9f525706a", func := "lidar/lidarlaw02.LinkNumbers", spec := "linkNumbers", apart := false, narrowed := true }
def LinkNumbersUptoSaid : Prop := linkNumbersUptoRow.holds Try.pinned (OpenSpec.upto linkNumbersSpec)

/-- 'lidarlaw02.LinkCarries', WHERE WHAT IT READS IS OF BULK AT MOST 1048576: true; the input reads as it did. -/
def linkCarriesUptoRow : OpenClaim := { program := "ytkakbeiehggkiaa", sum := "349c06524f3864c960582693aa7f5a7c2f7258077962196e1898a9a9f525706a", func := "lidar/lidarlaw02.LinkCarries", spec := "linkCarries", inPlace := ["slices.overlaps[[]byte]"], apart := false, narrowed := true }
def LinkCarriesUptoSaid : Prop := linkCarriesUptoRow.holds Try.pinned (OpenSpec.upto linkCarriesSpec)

/-- 'lidarlaw02.LinkTransfers', WHERE WHAT IT READS IS OF BULK AT MOST 1048576: true; the input reads as it did. -/
def linkTransfersUptoRow : OpenClaim := { program := "ytkakbeiehggkiaa", sum := "349c06524f3864c960582693aa7f5a7c2f7258077962196e1898a9a9f525706a", func := "lidar/lidarlaw02.LinkTransfers", spec := "linkTransfers", inPlace := ["slices.overlaps[[]byte]"], apart := false, narrowed := true }
def LinkTransfersUptoSaid : Prop := linkTransfersUptoRow.holds Try.pinned (OpenSpec.upto linkTransfersSpec)

/-- 'lidartop.TopTransfer', WHERE WHAT IT READS IS OF BULK AT MOST 1048576: true; the input reads as it did. -/
def topTransferUptoRow : OpenClaim := { program := "ytkakbeiehggkiaa", sum := "349c06524f3864c960582693aa7f5a7c2f7258077962196e1898a9a9f525706a", func := "lidar/lidartop.TopTransfer", spec := "topTransfer", inPlace := ["slices.overlaps[[]byte]"], apart := false, narrowed := true }
def TopTransferUptoSaid : Prop := topTransferUptoRow.holds Try.pinned (OpenSpec.upto topTransferSpec)

end Rows
end Go.Proofs.Ytkakbeiehggkiaa
