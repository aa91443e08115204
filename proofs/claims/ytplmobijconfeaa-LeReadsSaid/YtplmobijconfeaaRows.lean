/-
  No cell of these rows narrows 'for every input' (looked for: loops, veiled, ifaces, maps, wideKeys, modest, calm, conditions, laid).
  DERIVED. THE GIVEN ROWS OF THIS SEAT. 5 by the template 'for every input the law returns true; each argument reads behind the call as it read before'; 0 by the template 'total and deterministic' (their statements: YtplmobijconfeaaTotals.lean).
  GIVEN WITH THE SEED: the statements are not yours to turn. If you find one false, say at which input.
  Laid BY PROGRAM, IN A SANDBOX (cutbox-rows.mjs): the forced cells as the released guide's own fill.sh prints them over the translation 1c11b4677a08598a… (all of the seat's roots in one cut). By AI agents, Wed Nov 11 2026. No macro, syntax, notation, axiom, sorry.
-/
import Derived.Test.YtplmobijconfeaaChecked
import GoSem.Claim
import GoSem.ClaimJoined
import GoSem.ClaimMapViews
import Derived.JoinedTies
import Derived.KernelRfl
namespace Go.Proofs.Ytplmobijconfeaa
/- THE CELL 'sum', in the pinned program and in every row, IS THE sha256 OF THE DUMP (.gsa) THAT YtplmobijconfeaaProg.lean LOADS. Nothing in Lean hashes anything: it is a label: what it is worth is what the hold of that sum in a sandbox is worth. -/
noncomputable def Try.pinned : Pinned := { name := "ytplmobijconfeaa", sum := "1c11b4677a08598af9f8f201f2a3831c104f8ec119dcf088951eff65e3bd756a", checked := Try.checked }
namespace Rows
def none {H : Type} : Left H := { results := [], args := [] }

/-- 'revetmentlaw01.LePuts': WHATEVER THE INPUT: true; the input reads as it did. -/
def lePutsSpec : ChangeSpec := { name := "lePuts", fn := fun _ => fun
  | [d1, d2, d3] => { results := [.lit (.bool true)], args := [d1, d2, d3] }
  | _ => none }
def lePutsRow : OpenClaim := { program := "ytplmobijconfeaa", sum := "1c11b4677a08598af9f8f201f2a3831c104f8ec119dcf088951eff65e3bd756a", func := "revetment/revetmentlaw01.LePuts", spec := "lePuts", unfollowed := true, recurses := true, apart := false }
def LePutsSaid : Prop := lePutsRow.holds Try.pinned (OpenSpec.ofChange lePutsSpec)

/-- ITS FALSE NEIGHBOUR: 'it returns false'. Refute it at one input. -/
def lePutsWrong : ChangeSpec := { name := "lePuts", fn := fun _ => fun
  | [d1, d2, d3] => { results := [.lit (.bool false)], args := [d1, d2, d3] }
  | _ => none }
def LePutsWrongFalsely : Prop := lePutsRow.holds Try.pinned (OpenSpec.ofChange lePutsWrong)

/-- 'revetmentlaw01.LeReads': WHATEVER THE INPUT: true; the input reads as it did. -/
def leReadsSpec : ChangeSpec := { name := "leReads", fn := fun _ => fun
  | [d1, d2] => { results := [.lit (.bool true)], args := [d1, d2] }
  | _ => none }
def leReadsRow : OpenClaim := { program := "ytplmobijconfeaa", sum := "1c11b4677a08598af9f8f201f2a3831c104f8ec119dcf088951eff65e3bd756a", func := "revetment/revetmentlaw01.LeReads", spec := "leReads", unfollowed := true, recurses := true, apart := false }
def LeReadsSaid : Prop := leReadsRow.holds Try.pinned (OpenSpec.ofChange leReadsSpec)

/-- ITS FALSE NEIGHBOUR: 'it returns false'. Refute it at one input. -/
def leReadsWrong : ChangeSpec := { name := "leReads", fn := fun _ => fun
  | [d1, d2] => { results := [.lit (.bool false)], args := [d1, d2] }
  | _ => none }
def LeReadsWrongFalsely : Prop := leReadsRow.holds Try.pinned (OpenSpec.ofChange leReadsWrong)

/-- 'revetmentlaw01.LeBack': WHATEVER THE INPUT: true; the input reads as it did. -/
def leBackSpec : ChangeSpec := { name := "leBack", fn := fun _ => fun
  | [d1, d2, d3] => { results := [.lit (.bool true)], args := [d1, d2, d3] }
  | _ => none }
def leBackRow : OpenClaim := { program := "ytplmobijconfeaa", sum := "1c11b4677a08598af9f8f201f2a3831c104f8ec119dcf088951eff65e3bd756a", func := "revetment/revetmentlaw01.LeBack", spec := "leBack", unfollowed := true, recurses := true, apart := false }
def LeBackSaid : Prop := leBackRow.holds Try.pinned (OpenSpec.ofChange leBackSpec)

/-- ITS FALSE NEIGHBOUR: 'it returns false'. Refute it at one input. -/
def leBackWrong : ChangeSpec := { name := "leBack", fn := fun _ => fun
  | [d1, d2, d3] => { results := [.lit (.bool false)], args := [d1, d2, d3] }
  | _ => none }
def LeBackWrongFalsely : Prop := leBackRow.holds Try.pinned (OpenSpec.ofChange leBackWrong)

/-- 'revetmentlaw01.LeNone': WHATEVER THE INPUT: true; the input reads as it did. -/
def leNoneSpec : ChangeSpec := { name := "leNone", fn := fun _ => fun
  | [d] => { results := [.lit (.bool true)], args := [d] }
  | _ => none }
def leNoneRow : OpenClaim := { program := "ytplmobijconfeaa", sum := "1c11b4677a08598af9f8f201f2a3831c104f8ec119dcf088951eff65e3bd756a", func := "revetment/revetmentlaw01.LeNone", spec := "leNone", unfollowed := true, recurses := true, apart := false }
def LeNoneSaid : Prop := leNoneRow.holds Try.pinned (OpenSpec.ofChange leNoneSpec)

/-- ITS FALSE NEIGHBOUR: 'it returns false'. Refute it at one input. -/
def leNoneWrong : ChangeSpec := { name := "leNone", fn := fun _ => fun
  | [d] => { results := [.lit (.bool false)], args := [d] }
  | _ => none }
def LeNoneWrongFalsely : Prop := leNoneRow.holds Try.pinned (OpenSpec.ofChange leNoneWrong)

/-- 'revetmentlaw01.LeTakes': WHATEVER THE INPUT: true; the input reads as it did. -/
def leTakesSpec : ChangeSpec := { name := "leTakes", fn := fun _ => fun
  | [d1, d2] => { results := [.lit (.bool true)], args := [d1, d2] }
  | _ => none }
def leTakesRow : OpenClaim := { program := "ytplmobijconfeaa", sum := "1c11b4677a08598af9f8f201f2a3831c104f8ec119dcf088951eff65e3bd756a", func := "revetment/revetmentlaw01.LeTakes", spec := "leTakes", unfollowed := true, recurses := true, apart := false }
def LeTakesSaid : Prop := leTakesRow.holds Try.pinned (OpenSpec.ofChange leTakesSpec)

/-- ITS FALSE NEIGHBOUR: 'it returns false'. Refute it at one input. -/
def leTakesWrong : ChangeSpec := { name := "leTakes", fn := fun _ => fun
  | [d1, d2] => { results := [.lit (.bool false)], args := [d1, d2] }
  | _ => none }
def LeTakesWrongFalsely : Prop := leTakesRow.holds Try.pinned (OpenSpec.ofChange leTakesWrong)

/- THE SECOND FORM. 'bulk': how many values and letters a reading holds, each counted each time it is reached (what is shared counts as often as it is met; a slice's spare places count too). A statement '..UptoSaid' is the law's where the arguments, and the package variables that the reading takes, are together of bulk at most 1048576: NARROWER than '..Said'. Prove '..Said' where nothing that the law and all that it calls make is longer than what came in: it says more and counts as full. Else prove '..UptoSaid'. A law counts once. -/
mutual
def uptoBulk {H : Type} : DataW H → Nat
  | .lit (.string bytes) => bytes.length + 1
  | .lit _ => 1
  | .nil => 1
  | .ptr d => uptoBulk d + 1
  | .slice elems spare => uptoBulkAll elems + uptoBulkAll spare + 1
  | .agg parts => uptoBulkAll parts + 1
  | .iface _ d => uptoBulk d + 1
  | .map entries => uptoBulkEntries entries + 1
  | .held _ => 1
def uptoBulkAll {H : Type} : List (DataW H) → Nat
  | [] => 0
  | d :: r => uptoBulk d + uptoBulkAll r
def uptoBulkEntries {H : Type} : List (Lit × DataW H) → Nat
  | [] => 0
  | x :: r => uptoBulkEntry x + uptoBulkEntries r
def uptoBulkEntry {H : Type} : Lit × DataW H → Nat
  | (.string bytes, d) => bytes.length + uptoBulk d + 1
  | (_, d) => uptoBulk d + 1
 end
def uptoSmall : (H : Type) → List (DataW H) → Bool := fun _ ds => decide (uptoBulkAll ds ≤ 1048576)
def OpenSpec.upto (s : _root_.Go.ChangeSpec) : _root_.Go.OpenSpec := { _root_.Go.OpenSpec.ofChange s with cond := some uptoSmall }

/-- 'revetmentlaw01.LePuts', WHERE WHAT IT READS IS OF BULK AT MOST 1048576: true; the input reads as it did. -/
def lePutsUptoRow : OpenClaim := { program := "ytplmobijconfeaa", sum := "1c11b4677a08598af9f8f201f2a3831c104f8ec119dcf088951eff65e3bd756a", func := "revetment/revetmentlaw01.LePuts", spec := "lePuts", unfollowed := true, recurses := true, apart := false, narrowed := true }
def LePutsUptoSaid : Prop := lePutsUptoRow.holds Try.pinned (OpenSpec.upto lePutsSpec)

/-- 'revetmentlaw01.LeReads', WHERE WHAT IT READS IS OF BULK AT MOST 1048576: true; the input reads as it did. -/
def leReadsUptoRow : OpenClaim := { program := "ytplmobijconfeaa", sum := "1c11b4677a08598af9f8f201f2a3831c104f8ec119dcf088951eff65e3bd756a", func := "revetment/revetmentlaw01.LeReads", spec := "leReads", unfollowed := true, recurses := true, apart := false, narrowed := true }
def LeReadsUptoSaid : Prop := leReadsUptoRow.holds Try.pinned (OpenSpec.upto leReadsSpec)

/-- 'revetmentlaw01.LeBack', WHERE WHAT IT READS IS OF BULK AT MOST 1048576: true; the input reads as it did. -/
def leBackUptoRow : OpenClaim := { program := "ytplmobijconfeaa", sum := "1c11b4677a08598af9f8f201f2a3831c104f8ec119dcf088951eff65e3bd756a", func := "revetment/revetmentlaw01.LeBack", spec := "leBack", unfollowed := true, recurses := true, apart := false, narrowed := true }
def LeBackUptoSaid : Prop := leBackUptoRow.holds Try.pinned (OpenSpec.upto leBackSpec)

/-- 'revetmentlaw01.LeNone', WHERE WHAT IT READS IS OF BULK AT MOST 1048576: true; the input reads as it did. -/
def leNoneUptoRow : OpenClaim := { program := "ytplmobijconfeaa", sum := "1c11b4677a08598af9f8f201f2a3831c104f8ec119dcf088951eff65e3bd756a", func := "revetment/revetmentlaw01.LeNone", spec := "leNone", unfollowed := true, recurses := true, apart := false, narrowed := true }
def LeNoneUptoSaid : Prop := leNoneUptoRow.holds Try.pinned (OpenSpec.upto leNoneSpec)

/-- 'revetmentlaw01.LeTakes', WHERE WHAT IT READS IS OF BULK AT MOST 1048576: true; the input reads as it did. -/
def leTakesUptoRow : OpenClaim := { program := "ytplmobijconfeaa", sum := "1c11b4677a08598af9f8f201f2a3831c104f8ec119dcf088951eff65e3bd756a", func := "revetment/revetmentlaw01.LeTakes", spec := "leTakes", unfollowed := true, recurses := true, apart := false, narrowed := true }
def LeTakesUptoSaid : Prop := leTakesUptoRow.holds Try.pinned (OpenSpec.upto leTakesSpec)

end Rows
end Go.Proofs.Ytplmobijconfeaa
