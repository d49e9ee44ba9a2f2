/-
  No cell of these rows narrows 'for every input' (looked for: loops, veiled, ifaces, maps, wideKeys, modest, calm, conditions, laid).
  DERIVED. THE GIVEN ROWS OF THIS SEAT. 8 by the template 'for every input the law returns true; each argument reads behind the call as it read before'; 0 by the template 'total and deterministic' (their statements: YthmimbcdcbbaiaaTotals.lean).
  GIVEN WITH THE SEED: the statements are not yours to turn. If you find one false, say at which input.
  Laid BY PROGRAM, IN A SANDBOX (cutbox-rows.mjs): the forced cells as the released guide's own fill.sh prints them over the translation a1a085695336d5be… (all of the seat's roots in one cut). By AI agents, Wed Nov 11 2026. No macro, syntax, notation, axiom, sorry.
-/
import Derived.Test.YthmimbcdcbbaiaaChecked
import GoSem.Claim
import GoSem.ClaimJoined
import GoSem.ClaimMapViews
import Derived.JoinedTies
import Derived.KernelRfl
namespace Go.Proofs.Ythmimbcdcbbaiaa
/- THE CELL 'sum', in the pinned program and in every row, IS THE sha256 OF THE DUMP (.gsa) THAT YthmimbcdcbbaiaaProg.lean LOADS. Nothing in Lean hashes anything: it is a label: what it is worth is what the hold of that sum in a sandbox is worth. -/
noncomputable def Try.pinned : Pinned := { name := "ythmimbcdcbbaiaa", sum := "a1a085695336d5be3a55828f644e5c21d5310c0e52fc17d6a5c5517610059681", checked := Try.checked }
namespace Rows
def none {H : Type} : Left H := { results := [], args := [] }

/-- 'detentlaw1.TimesRound': WHATEVER THE INPUT: true; the input reads as it did. -/
def timesRoundSpec : ChangeSpec := { name := "timesRound", fn := fun _ => fun
  | [d1, d2, d3] => { results := [.lit (.bool true)], args := [d1, d2, d3] }
  | _ => none }
def timesRoundRow : OpenClaim := { program := "ythmimbcdcbbaiaa", sum := "a1a085695336d5be3a55828f644e5c21d5310c0e52fc17d6a5c5517610059681", func := "detent/detentlaw1.TimesRound", spec := "timesRound", apart := false }
def TimesRoundSaid : Prop := timesRoundRow.holds Try.pinned (OpenSpec.ofChange timesRoundSpec)

/-- ITS FALSE NEIGHBOUR: 'it returns false'. Refute it at one input. -/
def timesRoundWrong : ChangeSpec := { name := "timesRound", fn := fun _ => fun
  | [d1, d2, d3] => { results := [.lit (.bool false)], args := [d1, d2, d3] }
  | _ => none }
def TimesRoundWrongFalsely : Prop := timesRoundRow.holds Try.pinned (OpenSpec.ofChange timesRoundWrong)

/-- 'detentlaw1.TimesTurn': WHATEVER THE INPUT: true; the input reads as it did. -/
def timesTurnSpec : ChangeSpec := { name := "timesTurn", fn := fun _ => fun
  | [d1, d2, d3] => { results := [.lit (.bool true)], args := [d1, d2, d3] }
  | _ => none }
def timesTurnRow : OpenClaim := { program := "ythmimbcdcbbaiaa", sum := "a1a085695336d5be3a55828f644e5c21d5310c0e52fc17d6a5c5517610059681", func := "detent/detentlaw1.TimesTurn", spec := "timesTurn", apart := false }
def TimesTurnSaid : Prop := timesTurnRow.holds Try.pinned (OpenSpec.ofChange timesTurnSpec)

/-- ITS FALSE NEIGHBOUR: 'it returns false'. Refute it at one input. -/
def timesTurnWrong : ChangeSpec := { name := "timesTurn", fn := fun _ => fun
  | [d1, d2, d3] => { results := [.lit (.bool false)], args := [d1, d2, d3] }
  | _ => none }
def TimesTurnWrongFalsely : Prop := timesTurnRow.holds Try.pinned (OpenSpec.ofChange timesTurnWrong)

/-- 'detentlaw1.TimesRel': WHATEVER THE INPUT: true; the input reads as it did. -/
def timesRelSpec : ChangeSpec := { name := "timesRel", fn := fun _ => fun
  | [d1, d2, d3, d4, d5] => { results := [.lit (.bool true)], args := [d1, d2, d3, d4, d5] }
  | _ => none }
def timesRelRow : OpenClaim := { program := "ythmimbcdcbbaiaa", sum := "a1a085695336d5be3a55828f644e5c21d5310c0e52fc17d6a5c5517610059681", func := "detent/detentlaw1.TimesRel", spec := "timesRel", apart := false }
def TimesRelSaid : Prop := timesRelRow.holds Try.pinned (OpenSpec.ofChange timesRelSpec)

/-- ITS FALSE NEIGHBOUR: 'it returns false'. Refute it at one input. -/
def timesRelWrong : ChangeSpec := { name := "timesRel", fn := fun _ => fun
  | [d1, d2, d3, d4, d5] => { results := [.lit (.bool false)], args := [d1, d2, d3, d4, d5] }
  | _ => none }
def TimesRelWrongFalsely : Prop := timesRelRow.holds Try.pinned (OpenSpec.ofChange timesRelWrong)

/-- 'detentlaw1.TimesMost': WHATEVER THE INPUT: true; the input reads as it did. -/
def timesMostSpec : ChangeSpec := { name := "timesMost", fn := fun _ => fun
  | [d] => { results := [.lit (.bool true)], args := [d] }
  | _ => none }
def timesMostRow : OpenClaim := { program := "ythmimbcdcbbaiaa", sum := "a1a085695336d5be3a55828f644e5c21d5310c0e52fc17d6a5c5517610059681", func := "detent/detentlaw1.TimesMost", spec := "timesMost", apart := false }
def TimesMostSaid : Prop := timesMostRow.holds Try.pinned (OpenSpec.ofChange timesMostSpec)

/-- ITS FALSE NEIGHBOUR: 'it returns false'. Refute it at one input. -/
def timesMostWrong : ChangeSpec := { name := "timesMost", fn := fun _ => fun
  | [d] => { results := [.lit (.bool false)], args := [d] }
  | _ => none }
def TimesMostWrongFalsely : Prop := timesMostRow.holds Try.pinned (OpenSpec.ofChange timesMostWrong)

/-- 'detentlaw1.TimesAligned': WHATEVER THE INPUT: true; the input reads as it did. -/
def timesAlignedSpec : ChangeSpec := { name := "timesAligned", fn := fun _ => fun
  | [d1, d2] => { results := [.lit (.bool true)], args := [d1, d2] }
  | _ => none }
def timesAlignedRow : OpenClaim := { program := "ythmimbcdcbbaiaa", sum := "a1a085695336d5be3a55828f644e5c21d5310c0e52fc17d6a5c5517610059681", func := "detent/detentlaw1.TimesAligned", spec := "timesAligned", apart := false }
def TimesAlignedSaid : Prop := timesAlignedRow.holds Try.pinned (OpenSpec.ofChange timesAlignedSpec)

/-- ITS FALSE NEIGHBOUR: 'it returns false'. Refute it at one input. -/
def timesAlignedWrong : ChangeSpec := { name := "timesAligned", fn := fun _ => fun
  | [d1, d2] => { results := [.lit (.bool false)], args := [d1, d2] }
  | _ => none }
def TimesAlignedWrongFalsely : Prop := timesAlignedRow.holds Try.pinned (OpenSpec.ofChange timesAlignedWrong)

/-- 'detentlaw1.TimesTicked': WHATEVER THE INPUT: true; the input reads as it did. -/
def timesTickedSpec : ChangeSpec := { name := "timesTicked", fn := fun _ => fun
  | [d1, d2] => { results := [.lit (.bool true)], args := [d1, d2] }
  | _ => none }
def timesTickedRow : OpenClaim := { program := "ythmimbcdcbbaiaa", sum := "a1a085695336d5be3a55828f644e5c21d5310c0e52fc17d6a5c5517610059681", func := "detent/detentlaw1.TimesTicked", spec := "timesTicked", apart := false }
def TimesTickedSaid : Prop := timesTickedRow.holds Try.pinned (OpenSpec.ofChange timesTickedSpec)

/-- ITS FALSE NEIGHBOUR: 'it returns false'. Refute it at one input. -/
def timesTickedWrong : ChangeSpec := { name := "timesTicked", fn := fun _ => fun
  | [d1, d2] => { results := [.lit (.bool false)], args := [d1, d2] }
  | _ => none }
def TimesTickedWrongFalsely : Prop := timesTickedRow.holds Try.pinned (OpenSpec.ofChange timesTickedWrong)

/-- 'detentlaw1.TimesSums': WHATEVER THE INPUT: true; the input reads as it did. -/
def timesSumsSpec : ChangeSpec := { name := "timesSums", fn := fun _ => fun
  | [d1, d2] => { results := [.lit (.bool true)], args := [d1, d2] }
  | _ => none }
def timesSumsRow : OpenClaim := { program := "ythmimbcdcbbaiaa", sum := "a1a085695336d5be3a55828f644e5c21d5310c0e52fc17d6a5c5517610059681", func := "detent/detentlaw1.TimesSums", spec := "timesSums", apart := false }
def TimesSumsSaid : Prop := timesSumsRow.holds Try.pinned (OpenSpec.ofChange timesSumsSpec)

/-- ITS FALSE NEIGHBOUR: 'it returns false'. Refute it at one input. -/
def timesSumsWrong : ChangeSpec := { name := "timesSums", fn := fun _ => fun
  | [d1, d2] => { results := [.lit (.bool false)], args := [d1, d2] }
  | _ => none }
def TimesSumsWrongFalsely : Prop := timesSumsRow.holds Try.pinned (OpenSpec.ofChange timesSumsWrong)

/-- 'detentlaw1.TimesDue': WHATEVER THE INPUT: true; the input reads as it did. -/
def timesDueSpec : ChangeSpec := { name := "timesDue", fn := fun _ => fun
  | [d1, d2] => { results := [.lit (.bool true)], args := [d1, d2] }
  | _ => none }
def timesDueRow : OpenClaim := { program := "ythmimbcdcbbaiaa", sum := "a1a085695336d5be3a55828f644e5c21d5310c0e52fc17d6a5c5517610059681", func := "detent/detentlaw1.TimesDue", spec := "timesDue", apart := false }
def TimesDueSaid : Prop := timesDueRow.holds Try.pinned (OpenSpec.ofChange timesDueSpec)

/-- ITS FALSE NEIGHBOUR: 'it returns false'. Refute it at one input. -/
def timesDueWrong : ChangeSpec := { name := "timesDue", fn := fun _ => fun
  | [d1, d2] => { results := [.lit (.bool false)], args := [d1, d2] }
  | _ => none }
def TimesDueWrongFalsely : Prop := timesDueRow.holds Try.pinned (OpenSpec.ofChange timesDueWrong)

/- THE SECOND FORM. 'bulk': how many values and letters a reading holds, each counted each time it is reached (what is shared counts as often as it is met; a slice's spare places count too). A statement '..UptoSaid' is the law's where the arguments, and the package variables that the reading takes, are together of bulk at most 1048576: NARROWER than '..Said'. Prove '..Said' where nothing that the law and all that it calls make is longer than what came in: it says more and counts as full. Else prove '..UptoSaid'. A law counts once. -/
mutual
def uptoBulk {H : Type} : DataW H → Nat
  | .lit (.string bytes) => bytes.length + 1
  | .lit _ => 1
  | .nil => 1
  | .ptr d => uptoBulk d + 1
  | .slice elems spare => uptoBulkAll elems + uptoBulkAll spare + 1
  | .agg parts => uptoBulkAll parts + 1
  | .iface _ d => uptoBulk d + 1
  | .map entries => uptoBulkEntries entries + 1
  | .held _ => 1
def uptoBulkAll {H : Type} : List (DataW H) → Nat
  | [] => 0
  | d :: r => uptoBulk d + uptoBulkAll r
def uptoBulkEntries {H : Type} : List (Lit × DataW H) → Nat
  | [] => 0
  | x :: r => uptoBulkEntry x + uptoBulkEntries r
def uptoBulkEntry {H : Type} : Lit × DataW H → Nat
  | (.string bytes, d) => bytes.length + uptoBulk d + 1
  | (_, d) => uptoBulk d + 1
 end
def uptoSmall : (H : Type) → List (DataW H) → Bool := fun _ ds => decide (uptoBulkAll ds ≤ 1048576)
def OpenSpec.upto (s : _root_.Go.ChangeSpec) : _root_.Go.OpenSpec := { _root_.Go.OpenSpec.ofChange s with cond := some uptoSmall }

/-- 'detentlaw1.TimesRound', WHERE WHAT IT READS IS OF BULK AT MOST 1048576: true; the input reads as it did. -/
def timesRoundUptoRow : OpenClaim := { program := "ythmimbcdcbbaiaa", sum := "a1a085695336d5be3a55828f644e5c21d5310c0e52fc17d6a5c5517610059681", func := "detent/detentlaw1.TimesRound", spec := "timesRound", apart := false, narrowed := true }
def TimesRoundUptoSaid : Prop := timesRoundUptoRow.holds Try.pinned (OpenSpec.upto timesRoundSpec)

/-- 'detentlaw1.TimesTurn', WHERE WHAT IT READS IS OF BULK AT MOST 1048576: true; the input reads as it did. -/
def timesTurnUptoRow : OpenClaim := { program := "ythmimbcdcbbaiaa", sum := "a1a085695336d5be3a55828f644e5c21d5310c0e52fc17d6a5c5517610059681", func := "detent/detentlaw1.TimesTurn", spec := "timesTurn", apart := false, narrowed := true }
def TimesTurnUptoSaid : Prop := timesTurnUptoRow.holds Try.pinned (OpenSpec.upto timesTurnSpec)

/-- 'detentlaw1.TimesRel', WHERE WHAT IT READS IS OF BULK AT MOST 1048576: true; the input reads as it did. -/
def timesRelUptoRow : OpenClaim := { program := "ythmimbcdcbbaiaa", sum := "a1a085695336d5be3a55828f644e5c21d5310c0e52fc17d6a5c5517610059681", func := "detent/detentlaw1.TimesRel", spec := "timesRel", apart := false, narrowed := true }
def TimesRelUptoSaid : Prop := timesRelUptoRow.holds Try.pinned (OpenSpec.upto timesRelSpec)

/-- 'detentlaw1.TimesMost', WHERE WHAT IT READS IS OF BULK AT MOST 1048576: true; the input reads as it did. -/
def timesMostUptoRow : OpenClaim := { program := "ythmimbcdcbbaiaa", sum := "a1a085695336d5be3a55828f644e5c21d5310c0e52fc17d6a5c5517610059681", func := "detent/detentlaw1.TimesMost", spec := "timesMost", apart := false, narrowed := true }
def TimesMostUptoSaid : Prop := timesMostUptoRow.holds Try.pinned (OpenSpec.upto timesMostSpec)

/-- 'detentlaw1.TimesAligned', WHERE WHAT IT READS IS OF BULK AT MOST 1048576: true; the input reads as it did. -/
def timesAlignedUptoRow : OpenClaim := { program := "ythmimbcdcbbaiaa", sum := "a1a085695336d5be3a55828f644e5c21d5310c0e52fc17d6a5c5517610059681", func := "detent/detentlaw1.TimesAligned", spec := "timesAligned", apart := false, narrowed := true }
def TimesAlignedUptoSaid : Prop := timesAlignedUptoRow.holds Try.pinned (OpenSpec.upto timesAlignedSpec)

/-- 'detentlaw1.TimesTicked', WHERE WHAT IT READS IS OF BULK AT MOST 1048576: true; the input reads as it did. -/
def timesTickedUptoRow : OpenClaim := { program := "ythmimbcdcbbaiaa", sum := "a1a085695336d5be3a55828f644e5c21d5310c0e52fc17d6a5c5517610059681", func := "detent/detentlaw1.TimesTicked", spec := "timesTicked", apart := false, narrowed := true }
def TimesTickedUptoSaid : Prop := timesTickedUptoRow.holds Try.pinned (OpenSpec.upto timesTickedSpec)

/-- 'detentlaw1.TimesSums', WHERE WHAT IT READS IS OF BULK AT MOST 1048576: true; the input reads as it did. -/
def timesSumsUptoRow : OpenClaim := { program := "ythmimbcdcbbaiaa", sum := "a1a085695336d5be3a55828f644e5c21d5310c0e52fc17d6a5c5517610059681", func := "detent/detentlaw1.TimesSums", spec := "timesSums", apart := false, narrowed := true }
def TimesSumsUptoSaid : Prop := timesSumsUptoRow.holds Try.pinned (OpenSpec.upto timesSumsSpec)

/-- 'detentlaw1.TimesDue', WHERE WHAT IT READS IS OF BULK AT MOST 1048576: true; the input reads as it did. -/
def timesDueUptoRow : OpenClaim := { program := "ythmimbcdcbbaiaa", sum := "a1a085695336d5be3a55828f644e5c21d5310c0e52fc17d6a5c5517610059681", func := "detent/detentlaw1.TimesDue", spec := "timesDue", apart := false, narrowed := true }
def TimesDueUptoSaid : Prop := timesDueUptoRow.holds Try.pinned (OpenSpec.upto timesDueSpec)

end Rows
end Go.Proofs.Ythmimbcdcbbaiaa
