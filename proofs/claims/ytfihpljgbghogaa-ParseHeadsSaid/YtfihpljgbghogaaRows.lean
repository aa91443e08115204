/-
  No cell of these rows narrows 'for every input' (looked for: loops, veiled, ifaces, maps, wideKeys, modest, calm, conditions, laid).
  DERIVED. THE GIVEN ROWS OF THIS SEAT. 4 by the template 'for every input the law returns true; each argument reads behind the call as it read before'; 0 by the template 'total and deterministic' (their statements: YtfihpljgbghogaaTotals.lean).
  GIVEN WITH THE SEED: the statements are not yours to turn. If you find one false, say at which input.
  Laid BY PROGRAM, IN A SANDBOX (cutbox-rows.mjs): the forced cells as the released guide's own fill.sh prints them over the translation 2fc9c13438daa01b… (all of the seat's roots in one cut). By AI agents, Wed Nov 11 2026. No macro, syntax, notation, axiom, sorry.
-/
import Derived.Test.YtfihpljgbghogaaChecked
import GoSem.Claim
import GoSem.ClaimJoined
import GoSem.ClaimMapViews
import Derived.JoinedTies
import Derived.KernelRfl
namespace Go.Proofs.Ytfihpljgbghogaa
/- THE CELL 'sum', in the pinned program and in every row, IS THE sha256 OF THE DUMP (.gsa) THAT YtfihpljgbghogaaProg.lean LOADS. Nothing in Lean hashes anything: it is a label: what it is worth is what the hold of that sum in a sandbox is worth. -/
noncomputable def Try.pinned : Pinned := { name := "ytfihpljgbghogaa", sum := "2fc9c13438daa01bf5115645b8c1c26b63c023c1f5d60eb86c7a363b26237e38", checked := Try.checked }
namespace Rows
def none {H : Type} : Left H := { results := [], args := [] }

/-- 'revetmentlaw17.ParseReads': WHATEVER THE INPUT: true; the input reads as it did. -/
def parseReadsSpec : ChangeSpec := { name := "parseReads", fn := fun _ => fun
  | [d] => { results := [.lit (.bool true)], args := [d] }
  | _ => none }
def parseReadsRow : OpenClaim := { program := "ytfihpljgbghogaa", sum := "2fc9c13438daa01bf5115645b8c1c26b63c023c1f5d60eb86c7a363b26237e38", func := "revetment/revetmentlaw17.ParseReads", spec := "parseReads", unfollowed := true, recurses := true, apart := false }
def ParseReadsSaid : Prop := parseReadsRow.holds Try.pinned (OpenSpec.ofChange parseReadsSpec)

/-- ITS FALSE NEIGHBOUR: 'it returns false'. Refute it at one input. -/
def parseReadsWrong : ChangeSpec := { name := "parseReads", fn := fun _ => fun
  | [d] => { results := [.lit (.bool false)], args := [d] }
  | _ => none }
def ParseReadsWrongFalsely : Prop := parseReadsRow.holds Try.pinned (OpenSpec.ofChange parseReadsWrong)

/-- 'revetmentlaw17.ParseBack': WHATEVER THE INPUT: true; the input reads as it did. -/
def parseBackSpec : ChangeSpec := { name := "parseBack", fn := fun _ => fun
  | [d1, d2] => { results := [.lit (.bool true)], args := [d1, d2] }
  | _ => none }
def parseBackRow : OpenClaim := { program := "ytfihpljgbghogaa", sum := "2fc9c13438daa01bf5115645b8c1c26b63c023c1f5d60eb86c7a363b26237e38", func := "revetment/revetmentlaw17.ParseBack", spec := "parseBack", unfollowed := true, recurses := true, apart := false }
def ParseBackSaid : Prop := parseBackRow.holds Try.pinned (OpenSpec.ofChange parseBackSpec)

/-- ITS FALSE NEIGHBOUR: 'it returns false'. Refute it at one input. -/
def parseBackWrong : ChangeSpec := { name := "parseBack", fn := fun _ => fun
  | [d1, d2] => { results := [.lit (.bool false)], args := [d1, d2] }
  | _ => none }
def ParseBackWrongFalsely : Prop := parseBackRow.holds Try.pinned (OpenSpec.ofChange parseBackWrong)

/-- 'revetmentlaw17.ParseTurns': WHATEVER THE INPUT: true; the input reads as it did. -/
def parseTurnsSpec : ChangeSpec := { name := "parseTurns", fn := fun _ => fun
  | [d1, d2, d3] => { results := [.lit (.bool true)], args := [d1, d2, d3] }
  | _ => none }
def parseTurnsRow : OpenClaim := { program := "ytfihpljgbghogaa", sum := "2fc9c13438daa01bf5115645b8c1c26b63c023c1f5d60eb86c7a363b26237e38", func := "revetment/revetmentlaw17.ParseTurns", spec := "parseTurns", unfollowed := true, recurses := true, apart := false }
def ParseTurnsSaid : Prop := parseTurnsRow.holds Try.pinned (OpenSpec.ofChange parseTurnsSpec)

/-- ITS FALSE NEIGHBOUR: 'it returns false'. Refute it at one input. -/
def parseTurnsWrong : ChangeSpec := { name := "parseTurns", fn := fun _ => fun
  | [d1, d2, d3] => { results := [.lit (.bool false)], args := [d1, d2, d3] }
  | _ => none }
def ParseTurnsWrongFalsely : Prop := parseTurnsRow.holds Try.pinned (OpenSpec.ofChange parseTurnsWrong)

/-- 'revetmentlaw17.ParseHeads': WHATEVER THE INPUT: true; the input reads as it did. -/
def parseHeadsSpec : ChangeSpec := { name := "parseHeads", fn := fun _ => fun
  | [d1, d2] => { results := [.lit (.bool true)], args := [d1, d2] }
  | _ => none }
def parseHeadsRow : OpenClaim := { program := "ytfihpljgbghogaa", sum := "2fc9c13438daa01bf5115645b8c1c26b63c023c1f5d60eb86c7a363b26237e38", func := "revetment/revetmentlaw17.ParseHeads", spec := "parseHeads", unfollowed := true, recurses := true, apart := false }
def ParseHeadsSaid : Prop := parseHeadsRow.holds Try.pinned (OpenSpec.ofChange parseHeadsSpec)

/-- ITS FALSE NEIGHBOUR: 'it returns false'. Refute it at one input. -/
def parseHeadsWrong : ChangeSpec := { name := "parseHeads", fn := fun _ => fun
  | [d1, d2] => { results := [.lit (.bool false)], args := [d1, d2] }
  | _ => none }
def ParseHeadsWrongFalsely : Prop := parseHeadsRow.holds Try.pinned (OpenSpec.ofChange parseHeadsWrong)

/- THE SECOND FORM. 'bulk': how many values and letters a reading holds, each counted each time it is reached (what is shared counts as often as it is met; a slice's spare places count too). A statement '..UptoSaid' is the law's where the arguments, and the package variables that the reading takes, are together of bulk at most 1048576: NARROWER than '..Said'. Prove '..Said' where nothing that the law and all that it calls make is longer than what came in: it says more and counts as full. Else prove '..UptoSaid'. A law counts once. -/
mutual
def uptoBulk {H : Type} : DataW H → Nat
  | .lit (.string bytes) => bytes.length + 1
  | .lit _ => 1
  | .nil => 1
  | .ptr d => uptoBulk d + 1
  | .slice elems spare => uptoBulkAll elems + uptoBulkAll spare + 1
  | .agg parts => uptoBulkAll parts + 1
  | .iface _ d => uptoBulk d + 1
  | .map entries => uptoBulkEntries entries + 1
  | .held _ => 1
def uptoBulkAll {H : Type} : List (DataW H) → Nat
  | [] => 0
  | d :: r => uptoBulk d + uptoBulkAll r
def uptoBulkEntries {H : Type} : List (Lit × DataW H) → Nat
  | [] => 0
  | x :: r => uptoBulkEntry x + uptoBulkEntries r
def uptoBulkEntry {H : Type} : Lit × DataW H → Nat
  | (.string bytes, d) => bytes.length + uptoBulk d + 1
  | (_, d) => uptoBulk d + 1
 end
def uptoSmall : (H : Type) → List (DataW H) → Bool := fun _ ds => decide (uptoBulkAll ds ≤ 1048576)
def OpenSpec.upto (s : _root_.Go.ChangeSpec) : _root_.Go.OpenSpec := { _root_.Go.OpenSpec.ofChange s with cond := some uptoSmall }

/-- 'revetmentlaw17.ParseReads', WHERE WHAT IT READS IS OF BULK AT MOST 1048576: true; the input reads as it did. -/
def parseReadsUptoRow : OpenClaim := { program := "ytfihpljgbghogaa", sum := "2fc9c13438daa01bf5115645b8c1c26b63c023c1f5d60eb86c7a363b26237e38", func := "revetment/revetmentlaw17.ParseReads", spec := "parseReads", unfollowed := true, recurses := true, apart := false, narrowed := true }
def ParseReadsUptoSaid : Prop := parseReadsUptoRow.holds Try.pinned (OpenSpec.upto parseReadsSpec)

/-- 'revetmentlaw17.ParseBack', WHERE WHAT IT READS IS OF BULK AT MOST 1048576: true; the input reads as it did. -/
def parseBackUptoRow : OpenClaim := { program := "ytfihpljgbghogaa", sum := "2fc9c13438daa01bf5115645b8c1c26b63c023c1f5d60eb86c7a363b26237e38", func := "revetment/revetmentlaw17.ParseBack", spec := "parseBack", unfollowed := true, recurses := true, apart := false, narrowed := true }
def ParseBackUptoSaid : Prop := parseBackUptoRow.holds Try.pinned (OpenSpec.upto parseBackSpec)

/-- 'revetmentlaw17.ParseTurns', WHERE WHAT IT READS IS OF BULK AT MOST 1048576: true; the input reads as it did. -/
def parseTurnsUptoRow : OpenClaim := { program := "ytfihpljgbghogaa", sum := "2fc9c13438daa01bf5115645b8c1c26b63c023c1f5d60eb86c7a363b26237e38", func := "revetment/revetmentlaw17.ParseTurns", spec := "parseTurns", unfollowed := true, recurses := true, apart := false, narrowed := true }
def ParseTurnsUptoSaid : Prop := parseTurnsUptoRow.holds Try.pinned (OpenSpec.upto parseTurnsSpec)

/-- 'revetmentlaw17.ParseHeads', WHERE WHAT IT READS IS OF BULK AT MOST 1048576: true; the input reads as it did. -/
def parseHeadsUptoRow : OpenClaim := { program := "ytfihpljgbghogaa", sum := "2fc9c13438daa01bf5115645b8c1c26b63c023c1f5d60eb86c7a363b26237e38", func := "revetment/revetmentlaw17.ParseHeads", spec := "parseHeads", unfollowed := true, recurses := true, apart := false, narrowed := true }
def ParseHeadsUptoSaid : Prop := parseHeadsUptoRow.holds Try.pinned (OpenSpec.upto parseHeadsSpec)

end Rows
end Go.Proofs.Ytfihpljgbghogaa
