/-
  No cell of these rows narrows 'for every input' (looked for: loops, veiled, ifaces, maps, wideKeys, modest, calm, conditions, laid).
  DERIVED. THE GIVEN ROWS OF THIS SEAT. 7 by the template 'for every input the law returns true; each argument reads behind the call as it read before'; 0 by the template 'total and deterministic' (their statements: YtkcagifljelfoaaTotals.lean).
  GIVEN WITH THE SEED: the statements are not yours to turn. If you find one false, say at which input.
  Laid BY PROGRAM, IN A SANDBOX (cutbox-rows.mjs): the forced cells as the released guide's own fill.sh prints them over the translation e481f283dac7b7af… (all of the seat's roots in one cut). By AI agents, Wed Nov 11 2026. No macro, syntax, notation, axiom, sorry.
-/
import Derived.Test.YtkcagifljelfoaaChecked
import GoSem.Claim
import GoSem.ClaimJoined
import GoSem.ClaimMapViews
import Derived.JoinedTies
import Derived.KernelRfl
namespace Go.Proofs.Ytkcagifljelfoaa
/- THE CELL 'sum', in the pinned program and in every row, IS THE sha256 OF THE DUMP (.gsa) THAT YtkcagifljelfoaaProg.lean LOADS. Nothing in Lean hashes anything: it is a label: what it is worth is what the hold of that sum in a sandbox is worth. -/
noncomputable def Try.pinned : Pinned := { name := "ytkcagifljelfoaa", sum := "e481f283dac7b7af40937394e72cc2fd52930d6882bd382a4f07459d7364f82b", checked := Try.checked }
namespace Rows
def none {H : Type} : Left H := { results := [], args := [] }

/-- 'lidarlaw03.WaveSums': WHATEVER THE INPUT: true; the input reads as it did. -/
def waveSumsSpec : ChangeSpec := { name := "waveSums", fn := fun _ => fun
  | [d] => { results := [.lit (.bool true)], args := [d] }
  | _ => none }
def waveSumsRow : OpenClaim := { program := "ytkcagifljelfoaa", sum := "e481f283dac7b7af40937394e72cc2fd52930d6882bd382a4f07459d7364f82b", func := "lidar/lidarlaw03.WaveSums", spec := "waveSums", unfollowed := true, recurses := true, apart := false }
def WaveSumsSaid : Prop := waveSumsRow.holds Try.pinned (OpenSpec.ofChange waveSumsSpec)

/-- ITS FALSE NEIGHBOUR: 'it returns false'. Refute it at one input. -/
def waveSumsWrong : ChangeSpec := { name := "waveSums", fn := fun _ => fun
  | [d] => { results := [.lit (.bool false)], args := [d] }
  | _ => none }
def WaveSumsWrongFalsely : Prop := waveSumsRow.holds Try.pinned (OpenSpec.ofChange waveSumsWrong)

/-- 'lidarlaw03.WaveSteps': WHATEVER THE INPUT: true; the input reads as it did. -/
def waveStepsSpec : ChangeSpec := { name := "waveSteps", fn := fun _ => fun
  | [d] => { results := [.lit (.bool true)], args := [d] }
  | _ => none }
def waveStepsRow : OpenClaim := { program := "ytkcagifljelfoaa", sum := "e481f283dac7b7af40937394e72cc2fd52930d6882bd382a4f07459d7364f82b", func := "lidar/lidarlaw03.WaveSteps", spec := "waveSteps", unfollowed := true, recurses := true, apart := false }
def WaveStepsSaid : Prop := waveStepsRow.holds Try.pinned (OpenSpec.ofChange waveStepsSpec)

/-- ITS FALSE NEIGHBOUR: 'it returns false'. Refute it at one input. -/
def waveStepsWrong : ChangeSpec := { name := "waveSteps", fn := fun _ => fun
  | [d] => { results := [.lit (.bool false)], args := [d] }
  | _ => none }
def WaveStepsWrongFalsely : Prop := waveStepsRow.holds Try.pinned (OpenSpec.ofChange waveStepsWrong)

/-- 'lidarlaw03.WaveEchoes': WHATEVER THE INPUT: true; the input reads as it did. -/
def waveEchoesSpec : ChangeSpec := { name := "waveEchoes", fn := fun _ => fun
  | [d1, d2] => { results := [.lit (.bool true)], args := [d1, d2] }
  | _ => none }
def waveEchoesRow : OpenClaim := { program := "ytkcagifljelfoaa", sum := "e481f283dac7b7af40937394e72cc2fd52930d6882bd382a4f07459d7364f82b", func := "lidar/lidarlaw03.WaveEchoes", spec := "waveEchoes", unfollowed := true, recurses := true, apart := false }
def WaveEchoesSaid : Prop := waveEchoesRow.holds Try.pinned (OpenSpec.ofChange waveEchoesSpec)

/-- ITS FALSE NEIGHBOUR: 'it returns false'. Refute it at one input. -/
def waveEchoesWrong : ChangeSpec := { name := "waveEchoes", fn := fun _ => fun
  | [d1, d2] => { results := [.lit (.bool false)], args := [d1, d2] }
  | _ => none }
def WaveEchoesWrongFalsely : Prop := waveEchoesRow.holds Try.pinned (OpenSpec.ofChange waveEchoesWrong)

/-- 'lidarlaw03.WaveTimes': WHATEVER THE INPUT: true; the input reads as it did. -/
def waveTimesSpec : ChangeSpec := { name := "waveTimes", fn := fun _ => fun
  | [d1, d2] => { results := [.lit (.bool true)], args := [d1, d2] }
  | _ => none }
def waveTimesRow : OpenClaim := { program := "ytkcagifljelfoaa", sum := "e481f283dac7b7af40937394e72cc2fd52930d6882bd382a4f07459d7364f82b", func := "lidar/lidarlaw03.WaveTimes", spec := "waveTimes", unfollowed := true, recurses := true, apart := false }
def WaveTimesSaid : Prop := waveTimesRow.holds Try.pinned (OpenSpec.ofChange waveTimesSpec)

/-- ITS FALSE NEIGHBOUR: 'it returns false'. Refute it at one input. -/
def waveTimesWrong : ChangeSpec := { name := "waveTimes", fn := fun _ => fun
  | [d1, d2] => { results := [.lit (.bool false)], args := [d1, d2] }
  | _ => none }
def WaveTimesWrongFalsely : Prop := waveTimesRow.holds Try.pinned (OpenSpec.ofChange waveTimesWrong)

/-- 'lidarlaw03.WaveChains': WHATEVER THE INPUT: true; the input reads as it did. -/
def waveChainsSpec : ChangeSpec := { name := "waveChains", fn := fun _ => fun
  | [d1, d2] => { results := [.lit (.bool true)], args := [d1, d2] }
  | _ => none }
def waveChainsRow : OpenClaim := { program := "ytkcagifljelfoaa", sum := "e481f283dac7b7af40937394e72cc2fd52930d6882bd382a4f07459d7364f82b", func := "lidar/lidarlaw03.WaveChains", spec := "waveChains", unfollowed := true, recurses := true, apart := false }
def WaveChainsSaid : Prop := waveChainsRow.holds Try.pinned (OpenSpec.ofChange waveChainsSpec)

/-- ITS FALSE NEIGHBOUR: 'it returns false'. Refute it at one input. -/
def waveChainsWrong : ChangeSpec := { name := "waveChains", fn := fun _ => fun
  | [d1, d2] => { results := [.lit (.bool false)], args := [d1, d2] }
  | _ => none }
def WaveChainsWrongFalsely : Prop := waveChainsRow.holds Try.pinned (OpenSpec.ofChange waveChainsWrong)

/-- 'lidarlaw03.WaveLifts': WHATEVER THE INPUT: true; the input reads as it did. -/
def waveLiftsSpec : ChangeSpec := { name := "waveLifts", fn := fun _ => fun
  | [d1, d2, d3] => { results := [.lit (.bool true)], args := [d1, d2, d3] }
  | _ => none }
def waveLiftsRow : OpenClaim := { program := "ytkcagifljelfoaa", sum := "e481f283dac7b7af40937394e72cc2fd52930d6882bd382a4f07459d7364f82b", func := "lidar/lidarlaw03.WaveLifts", spec := "waveLifts", unfollowed := true, recurses := true, apart := false }
def WaveLiftsSaid : Prop := waveLiftsRow.holds Try.pinned (OpenSpec.ofChange waveLiftsSpec)

/-- ITS FALSE NEIGHBOUR: 'it returns false'. Refute it at one input. -/
def waveLiftsWrong : ChangeSpec := { name := "waveLifts", fn := fun _ => fun
  | [d1, d2, d3] => { results := [.lit (.bool false)], args := [d1, d2, d3] }
  | _ => none }
def WaveLiftsWrongFalsely : Prop := waveLiftsRow.holds Try.pinned (OpenSpec.ofChange waveLiftsWrong)

/-- 'lidarlaw03.WaveDelays': WHATEVER THE INPUT: true; the input reads as it did. -/
def waveDelaysSpec : ChangeSpec := { name := "waveDelays", fn := fun _ => fun
  | [d1, d2, d3] => { results := [.lit (.bool true)], args := [d1, d2, d3] }
  | _ => none }
def waveDelaysRow : OpenClaim := { program := "ytkcagifljelfoaa", sum := "e481f283dac7b7af40937394e72cc2fd52930d6882bd382a4f07459d7364f82b", func := "lidar/lidarlaw03.WaveDelays", spec := "waveDelays", unfollowed := true, recurses := true, apart := false }
def WaveDelaysSaid : Prop := waveDelaysRow.holds Try.pinned (OpenSpec.ofChange waveDelaysSpec)

/-- ITS FALSE NEIGHBOUR: 'it returns false'. Refute it at one input. -/
def waveDelaysWrong : ChangeSpec := { name := "waveDelays", fn := fun _ => fun
  | [d1, d2, d3] => { results := [.lit (.bool false)], args := [d1, d2, d3] }
  | _ => none }
def WaveDelaysWrongFalsely : Prop := waveDelaysRow.holds Try.pinned (OpenSpec.ofChange waveDelaysWrong)

/- THE SECOND FORM. 'bulk': how many values and letters a reading holds, each counted each time it is reached (what is shared counts as often as it is met; a slice's spare places count too). A statement '..UptoSaid' is the law's where the arguments, and the package variables that the reading takes, are together of bulk at most 1048576: NARROWER than '..Said'. Prove '..Said' where nothing that the law and all that it calls make is longer than what came in: it says more and counts as full. Else prove '..UptoSaid'. A law counts once. -/
mutual
def uptoBulk {H : Type} : DataW H → Nat
  | .lit (.string bytes) => bytes.length + 1
  | .lit _ => 1
  | .nil => 1
  | .ptr d => uptoBulk d + 1
  | .slice elems spare => uptoBulkAll elems + uptoBulkAll spare + 1
  | .agg parts => uptoBulkAll parts + 1
  | .iface _ d => uptoBulk d + 1
  | .map entries => uptoBulkEntries entries + 1
  | .held _ => 1
def uptoBulkAll {H : Type} : List (DataW H) → Nat
  | [] => 0
  | d :: r => uptoBulk d + uptoBulkAll r
def uptoBulkEntries {H : Type} : List (Lit × DataW H) → Nat
  | [] => 0
  | x :: r => uptoBulkEntry x + uptoBulkEntries r
def uptoBulkEntry {H : Type} : Lit × DataW H → Nat
  | (.string bytes, d) => bytes.length + uptoBulk d + 1
  | (_, d) => uptoBulk d + 1
 end
def uptoSmall : (H : Type) → List (DataW H) → Bool := fun _ ds => decide (uptoBulkAll ds ≤ 1048576)
def OpenSpec.upto (s : _root_.Go.ChangeSpec) : _root_.Go.OpenSpec := { _root_.Go.OpenSpec.ofChange s with cond := some uptoSmall }

/-- 'lidarlaw03.WaveSums', WHERE WHAT IT READS IS OF BULK AT MOST 1048576: true; the input reads as it did. -/
def waveSumsUptoRow : OpenClaim := { program := "ytkcagifljelfoaa", sum := "e481f283dac7b7af40937394e72cc2fd52930d6882bd382a4f07459d7364f82b", func := "lidar/lidarlaw03.WaveSums", spec := "waveSums", unfollowed := true, recurses := true, apart := false, narrowed := true }
def WaveSumsUptoSaid : Prop := waveSumsUptoRow.holds Try.pinned (OpenSpec.upto waveSumsSpec)

/-- 'lidarlaw03.WaveSteps', WHERE WHAT IT READS IS OF BULK AT MOST 1048576: true; the input reads as it did. -/
def waveStepsUptoRow : OpenClaim := { program := "ytkcagifljelfoaa", sum := "e481f283dac7b7af40937394e72cc2fd52930d6882bd382a4f07459d7364f82b", func := "lidar/lidarlaw03.WaveSteps", spec := "waveSteps", unfollowed := true, recurses := true, apart := false, narrowed := true }
def WaveStepsUptoSaid : Prop := waveStepsUptoRow.holds Try.pinned (OpenSpec.upto waveStepsSpec)

/-- 'lidarlaw03.WaveEchoes', WHERE WHAT IT READS IS OF BULK AT MOST 1048576: true; the input reads as it did. -/
def waveEchoesUptoRow : OpenClaim := { program := "ytkcagifljelfoaa", sum := "e481f283dac7b7af40937394e72cc2fd52930d6882bd382a4f07459d7364f82b", func := "lidar/lidarlaw03.WaveEchoes", spec := "waveEchoes", unfollowed := true, recurses := true, apart := false, narrowed := true }
def WaveEchoesUptoSaid : Prop := waveEchoesUptoRow.holds Try.pinned (OpenSpec.upto waveEchoesSpec)

/-- 'lidarlaw03.WaveTimes', WHERE WHAT IT READS IS OF BULK AT MOST 1048576: true; the input reads as it did. -/
def waveTimesUptoRow : OpenClaim := { program := "ytkcagifljelfoaa", sum := "e481f283dac7b7af40937394e72cc2fd52930d6882bd382a4f07459d7364f82b", func := "lidar/lidarlaw03.WaveTimes", spec := "waveTimes", unfollowed := true, recurses := true, apart := false, narrowed := true }
def WaveTimesUptoSaid : Prop := waveTimesUptoRow.holds Try.pinned (OpenSpec.upto waveTimesSpec)

/-- 'lidarlaw03.WaveChains', WHERE WHAT IT READS IS OF BULK AT MOST 1048576: true; the input reads as it did. -/
def waveChainsUptoRow : OpenClaim := { program := "ytkcagifljelfoaa", sum := "e481f283dac7b7af40937394e72cc2fd52930d6882bd382a4f07459d7364f82b", func := "lidar/lidarlaw03.WaveChains", spec := "waveChains", unfollowed := true, recurses := true, apart := false, narrowed := true }
def WaveChainsUptoSaid : Prop := waveChainsUptoRow.holds Try.pinned (OpenSpec.upto waveChainsSpec)

/-- 'lidarlaw03.WaveLifts', WHERE WHAT IT READS IS OF BULK AT MOST 1048576: true; the input reads as it did. -/
def waveLiftsUptoRow : OpenClaim := { program := "ytkcagifljelfoaa", sum := "e481f283dac7b7af40937394e72cc2fd52930d6882bd382a4f07459d7364f82b", func := "lidar/lidarlaw03.WaveLifts", spec := "waveLifts", unfollowed := true, recurses := true, apart := false, narrowed := true }
def WaveLiftsUptoSaid : Prop := waveLiftsUptoRow.holds Try.pinned (OpenSpec.upto waveLiftsSpec)

/-- 'lidarlaw03.WaveDelays', WHERE WHAT IT READS IS OF BULK AT MOST 1048576: true; the input reads as it did. -/
def waveDelaysUptoRow : OpenClaim := { program := "ytkcagifljelfoaa", sum := "e481f283dac7b7af40937394e72cc2fd52930d6882bd382a4f07459d7364f82b", func := "lidar/lidarlaw03.WaveDelays", spec := "waveDelays", unfollowed := true, recurses := true, apart := false, narrowed := true }
def WaveDelaysUptoSaid : Prop := waveDelaysUptoRow.holds Try.pinned (OpenSpec.upto waveDelaysSpec)

end Rows
end Go.Proofs.Ytkcagifljelfoaa
