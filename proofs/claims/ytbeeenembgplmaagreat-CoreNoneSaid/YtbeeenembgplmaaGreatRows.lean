/-
  No cell of these rows narrows 'for every input' (looked for: loops, veiled, ifaces, maps, wideKeys, modest, calm, conditions, laid).
  DERIVED. THE GIVEN ROWS OF THIS SEAT. 5 by the template 'for every input the law returns true; each argument reads behind the call as it read before'; 0 by the template 'total and deterministic' (their statements: YtbeeenembgplmaaGreatTotals.lean).
  GIVEN WITH THE SEED: the statements are not yours to turn. If you find one false, say at which input.
  Laid BY PROGRAM, IN A SANDBOX (cutbox-rows.mjs): the forced cells as the released guide's own fill.sh prints them over the translation 44ea7f2362b9e973… (all of the seat's roots in one cut). By AI agents, Wed Nov 11 2026. No macro, syntax, notation, axiom, sorry.
-/
import Derived.Test.YtbeeenembgplmaaGreatChecked
import GoSem.Claim
import GoSem.ClaimJoined
import GoSem.ClaimMapViews
import Derived.JoinedTies
import Derived.KernelRfl
namespace Go.Proofs.YtbeeenembgplmaaGreat
/- THE CELL 'sum', in the pinned program and in every row, IS THE sha256 OF THE DUMP (.gsa) THAT YtbeeenembgplmaaGreatProg.lean LOADS. Nothing in Lean hashes anything: it is a label: what it is worth is what the hold of that sum in a sandbox is worth. -/
noncomputable def Tryz.pinned : Pinned := { name := "ytbeeenembgplmaagreat", sum := "44ea7f2362b9e973a6c4c6f0112eefd288a54bcde35842d1ed0a3f9b918299c8", checked := Tryz.checked }
namespace Rows
def none {H : Type} : Left H := { results := [], args := [] }

/-- 'revetmentlaw18.CorePlays': WHATEVER THE INPUT: true; the input reads as it did. -/
def corePlaysSpec : ChangeSpec := { name := "corePlays", fn := fun _ => fun
  | [d1, d2] => { results := [.lit (.bool true)], args := [d1, d2] }
  | _ => none }
def corePlaysRow : OpenClaim := { program := "ytbeeenembgplmaagreat", sum := "44ea7f2362b9e973a6c4c6f0112eefd288a54bcde35842d1ed0a3f9b918299c8", func := "revetment/revetmentlaw18.CorePlays", spec := "corePlays", unfollowed := true, recurses := true, apart := false }
def CorePlaysSaid : Prop := corePlaysRow.holds Tryz.pinned (OpenSpec.ofChange corePlaysSpec)

/-- ITS FALSE NEIGHBOUR: 'it returns false'. Refute it at one input. -/
def corePlaysWrong : ChangeSpec := { name := "corePlays", fn := fun _ => fun
  | [d1, d2] => { results := [.lit (.bool false)], args := [d1, d2] }
  | _ => none }
def CorePlaysWrongFalsely : Prop := corePlaysRow.holds Tryz.pinned (OpenSpec.ofChange corePlaysWrong)

/-- 'revetmentlaw18.CoreLasts': WHATEVER THE INPUT: true; the input reads as it did. -/
def coreLastsSpec : ChangeSpec := { name := "coreLasts", fn := fun _ => fun
  | [d1, d2, d3] => { results := [.lit (.bool true)], args := [d1, d2, d3] }
  | _ => none }
def coreLastsRow : OpenClaim := { program := "ytbeeenembgplmaagreat", sum := "44ea7f2362b9e973a6c4c6f0112eefd288a54bcde35842d1ed0a3f9b918299c8", func := "revetment/revetmentlaw18.CoreLasts", spec := "coreLasts", unfollowed := true, recurses := true, apart := false }
def CoreLastsSaid : Prop := coreLastsRow.holds Tryz.pinned (OpenSpec.ofChange coreLastsSpec)

/-- ITS FALSE NEIGHBOUR: 'it returns false'. Refute it at one input. -/
def coreLastsWrong : ChangeSpec := { name := "coreLasts", fn := fun _ => fun
  | [d1, d2, d3] => { results := [.lit (.bool false)], args := [d1, d2, d3] }
  | _ => none }
def CoreLastsWrongFalsely : Prop := coreLastsRow.holds Tryz.pinned (OpenSpec.ofChange coreLastsWrong)

/-- 'revetmentlaw18.CoreNone': WHATEVER THE INPUT: true; the input reads as it did. -/
def coreNoneSpec : ChangeSpec := { name := "coreNone", fn := fun _ => fun
  | [d1, d2] => { results := [.lit (.bool true)], args := [d1, d2] }
  | _ => none }
def coreNoneRow : OpenClaim := { program := "ytbeeenembgplmaagreat", sum := "44ea7f2362b9e973a6c4c6f0112eefd288a54bcde35842d1ed0a3f9b918299c8", func := "revetment/revetmentlaw18.CoreNone", spec := "coreNone", unfollowed := true, recurses := true, apart := false }
def CoreNoneSaid : Prop := coreNoneRow.holds Tryz.pinned (OpenSpec.ofChange coreNoneSpec)

/-- ITS FALSE NEIGHBOUR: 'it returns false'. Refute it at one input. -/
def coreNoneWrong : ChangeSpec := { name := "coreNone", fn := fun _ => fun
  | [d1, d2] => { results := [.lit (.bool false)], args := [d1, d2] }
  | _ => none }
def CoreNoneWrongFalsely : Prop := coreNoneRow.holds Tryz.pinned (OpenSpec.ofChange coreNoneWrong)

/-- 'revetmentlaw18.CoreMarks': WHATEVER THE INPUT: true; the input reads as it did. -/
def coreMarksSpec : ChangeSpec := { name := "coreMarks", fn := fun _ => fun
  | [d1, d2, d3] => { results := [.lit (.bool true)], args := [d1, d2, d3] }
  | _ => none }
def coreMarksRow : OpenClaim := { program := "ytbeeenembgplmaagreat", sum := "44ea7f2362b9e973a6c4c6f0112eefd288a54bcde35842d1ed0a3f9b918299c8", func := "revetment/revetmentlaw18.CoreMarks", spec := "coreMarks", unfollowed := true, recurses := true, apart := false }
def CoreMarksSaid : Prop := coreMarksRow.holds Tryz.pinned (OpenSpec.ofChange coreMarksSpec)

/-- ITS FALSE NEIGHBOUR: 'it returns false'. Refute it at one input. -/
def coreMarksWrong : ChangeSpec := { name := "coreMarks", fn := fun _ => fun
  | [d1, d2, d3] => { results := [.lit (.bool false)], args := [d1, d2, d3] }
  | _ => none }
def CoreMarksWrongFalsely : Prop := coreMarksRow.holds Tryz.pinned (OpenSpec.ofChange coreMarksWrong)

/-- 'revetmentlaw08.MetaPlays': WHATEVER THE INPUT: true; the input reads as it did. -/
def metaPlaysSpec : ChangeSpec := { name := "metaPlays", fn := fun _ => fun
  | [d1, d2, d3] => { results := [.lit (.bool true)], args := [d1, d2, d3] }
  | _ => none }
def metaPlaysRow : OpenClaim := { program := "ytbeeenembgplmaagreat", sum := "44ea7f2362b9e973a6c4c6f0112eefd288a54bcde35842d1ed0a3f9b918299c8", func := "revetment/revetmentlaw08.MetaPlays", spec := "metaPlays", unfollowed := true, recurses := true, apart := false }
def MetaPlaysSaid : Prop := metaPlaysRow.holds Tryz.pinned (OpenSpec.ofChange metaPlaysSpec)

/-- ITS FALSE NEIGHBOUR: 'it returns false'. Refute it at one input. -/
def metaPlaysWrong : ChangeSpec := { name := "metaPlays", fn := fun _ => fun
  | [d1, d2, d3] => { results := [.lit (.bool false)], args := [d1, d2, d3] }
  | _ => none }
def MetaPlaysWrongFalsely : Prop := metaPlaysRow.holds Tryz.pinned (OpenSpec.ofChange metaPlaysWrong)

/- THE SECOND FORM. 'bulk': how many values and letters a reading holds, each counted each time it is reached (what is shared counts as often as it is met; a slice's spare places count too). A statement '..UptoSaid' is the law's where the arguments, and the package variables that the reading takes, are together of bulk at most 1048576: NARROWER than '..Said'. Prove '..Said' where nothing that the law and all that it calls make is longer than what came in: it says more and counts as full. Else prove '..UptoSaid'. A law counts once. -/
mutual
def uptoBulk {H : Type} : DataW H → Nat
  | .lit (.string bytes) => bytes.length + 1
  | .lit _ => 1
  | .nil => 1
  | .ptr d => uptoBulk d + 1
  | .slice elems spare => uptoBulkAll elems + uptoBulkAll spare + 1
  | .agg parts => uptoBulkAll parts + 1
  | .iface _ d => uptoBulk d + 1
  | .map entries => uptoBulkEntries entries + 1
  | .held _ => 1
def uptoBulkAll {H : Type} : List (DataW H) → Nat
  | [] => 0
  | d :: r => uptoBulk d + uptoBulkAll r
def uptoBulkEntries {H : Type} : List (Lit × DataW H) → Nat
  | [] => 0
  | x :: r => uptoBulkEntry x + uptoBulkEntries r
def uptoBulkEntry {H : Type} : Lit × DataW H → Nat
  | (.string bytes, d) => bytes.length + uptoBulk d + 1
  | (_, d) => uptoBulk d + 1
 end
def uptoSmall : (H : Type) → List (DataW H) → Bool := fun _ ds => decide (uptoBulkAll ds ≤ 1048576)
def OpenSpec.upto (s : _root_.Go.ChangeSpec) : _root_.Go.OpenSpec := { _root_.Go.OpenSpec.ofChange s with cond := some uptoSmall }

/-- 'revetmentlaw18.CorePlays', WHERE WHAT IT READS IS OF BULK AT MOST 1048576: true; the input reads as it did. -/
def corePlaysUptoRow : OpenClaim := { program := "ytbeeenembgplmaagreat", sum := "44ea7f2362b9e973a6c4c6f0112eefd288a54bcde35842d1ed0a3f9b918299c8", func := "revetment/revetmentlaw18.CorePlays", spec := "corePlays", unfollowed := true, recurses := true, apart := false, narrowed := true }
def CorePlaysUptoSaid : Prop := corePlaysUptoRow.holds Tryz.pinned (OpenSpec.upto corePlaysSpec)

/-- 'revetmentlaw18.CoreLasts', WHERE WHAT IT READS IS OF BULK AT MOST 1048576: true; the input reads as it did. -/
def coreLastsUptoRow : OpenClaim := { program := "ytbeeenembgplmaagreat", sum := "44ea7f2362b9e973a6c4c6f0112eefd288a54bcde35842d1ed0a3f9b918299c8", func := "revetment/revetmentlaw18.CoreLasts", spec := "coreLasts", unfollowed := true, recurses := true, apart := false, narrowed := true }
def CoreLastsUptoSaid : Prop := coreLastsUptoRow.holds Tryz.pinned (OpenSpec.upto coreLastsSpec)

/-- 'revetmentlaw18.CoreNone', WHERE WHAT IT READS IS OF BULK AT MOST 1048576: true; the input reads as it did. -/
def coreNoneUptoRow : OpenClaim := { program := "ytbeeenembgplmaagreat", sum := "44ea7f2362b9e973a6c4c6f0112eefd288a54bcde35842d1ed0a3f9b918299c8", func := "revetment/revetmentlaw18.CoreNone", spec := "coreNone", unfollowed := true, recurses := true, apart := false, narrowed := true }
def CoreNoneUptoSaid : Prop := coreNoneUptoRow.holds Tryz.pinned (OpenSpec.upto coreNoneSpec)

/-- 'revetmentlaw18.CoreMarks', WHERE WHAT IT READS IS OF BULK AT MOST 1048576: true; the input reads as it did. -/
def coreMarksUptoRow : OpenClaim := { program := "ytbeeenembgplmaagreat", sum := "44ea7f2362b9e973a6c4c6f0112eefd288a54bcde35842d1ed0a3f9b918299c8", func := "revetment/revetmentlaw18.CoreMarks", spec := "coreMarks", unfollowed := true, recurses := true, apart := false, narrowed := true }
def CoreMarksUptoSaid : Prop := coreMarksUptoRow.holds Tryz.pinned (OpenSpec.upto coreMarksSpec)

/-- 'revetmentlaw08.MetaPlays', WHERE WHAT IT READS IS OF BULK AT MOST 1048576: true; the input reads as it did. -/
def metaPlaysUptoRow : OpenClaim := { program := "ytbeeenembgplmaagreat", sum := "44ea7f2362b9e973a6c4c6f0112eefd288a54bcde35842d1ed0a3f9b918299c8", func := "revetment/revetmentlaw08.MetaPlays", spec := "metaPlays", unfollowed := true, recurses := true, apart := false, narrowed := true }
def MetaPlaysUptoSaid : Prop := metaPlaysUptoRow.holds Tryz.pinned (OpenSpec.upto metaPlaysSpec)

end Rows
end Go.Proofs.YtbeeenembgplmaaGreat
