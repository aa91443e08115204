/-
  No cell of these rows narrows 'for every input' (looked for: loops, veiled, ifaces, maps, wideKeys, modest, calm, conditions, laid).
  DERIVED. THE GIVEN ROWS OF THIS SEAT. 4 by the template 'for every input the law returns true; each argument reads behind the call as it read before'; 0 by the template 'total and deterministic' (their statements: YtlnljanhnodhkaaTotals.lean).
  GIVEN WITH THE SEED: the statements are not yours to turn. If you find one false, say at which input.
  Laid BY PROGRAM, IN A SANDBOX (cutbox-rows.mjs): the forced cells as the released guide's own fill.sh prints them over the translation 668bc23b8d0a947f… (all of the seat's roots in one cut). By AI agents, Wed Nov 11 2026. No macro, syntax, notation, axiom, sorry.
-/
import Derived.Test.YtlnljanhnodhkaaChecked
import GoSem.Claim
import GoSem.ClaimJoined
import GoSem.ClaimMapViews
import Derived.JoinedTies
import Derived.KernelRfl
namespace Go.Proofs.Ytlnljanhnodhkaa
/- THE CELL 'sum', in the pinned program and in every row, IS THE sha256 OF THE DUMP (.gsa) THAT YtlnljanhnodhkaaProg.lean LOADS. Nothing in Lean hashes anything: it is a label: what it is worth is what the hold of that sum in a sandbox is worth. -/
noncomputable def Try.pinned : Pinned := { name := "ytlnljanhnodhkaa", sum := "668bc23b8d0a947f37638cef9e6f9991bb4c6953d786e9aabfc1875d94d78d09", checked := Try.checked }
namespace Rows
def none {H : Type} : Left H := { results := [], args := [] }

/-- 'revetmentlaw16.StreamCodes': WHATEVER THE INPUT: true; the input reads as it did. -/
def streamCodesSpec : ChangeSpec := { name := "streamCodes", fn := fun _ => fun
  | [d1, d2] => { results := [.lit (.bool true)], args := [d1, d2] }
  | _ => none }
def streamCodesRow : OpenClaim := { program := "ytlnljanhnodhkaa", sum := "668bc23b8d0a947f37638cef9e6f9991bb4c6953d786e9aabfc1875d94d78d09", func := "revetment/revetmentlaw16.StreamCodes", spec := "streamCodes", unfollowed := true, recurses := true, apart := false }
def StreamCodesSaid : Prop := streamCodesRow.holds Try.pinned (OpenSpec.ofChange streamCodesSpec)

/-- ITS FALSE NEIGHBOUR: 'it returns false'. Refute it at one input. -/
def streamCodesWrong : ChangeSpec := { name := "streamCodes", fn := fun _ => fun
  | [d1, d2] => { results := [.lit (.bool false)], args := [d1, d2] }
  | _ => none }
def StreamCodesWrongFalsely : Prop := streamCodesRow.holds Try.pinned (OpenSpec.ofChange streamCodesWrong)

/-- 'revetmentlaw16.StreamApart': WHATEVER THE INPUT: true; the input reads as it did. -/
def streamApartSpec : ChangeSpec := { name := "streamApart", fn := fun _ => fun
  | [d1, d2] => { results := [.lit (.bool true)], args := [d1, d2] }
  | _ => none }
def streamApartRow : OpenClaim := { program := "ytlnljanhnodhkaa", sum := "668bc23b8d0a947f37638cef9e6f9991bb4c6953d786e9aabfc1875d94d78d09", func := "revetment/revetmentlaw16.StreamApart", spec := "streamApart", unfollowed := true, recurses := true, apart := false }
def StreamApartSaid : Prop := streamApartRow.holds Try.pinned (OpenSpec.ofChange streamApartSpec)

/-- ITS FALSE NEIGHBOUR: 'it returns false'. Refute it at one input. -/
def streamApartWrong : ChangeSpec := { name := "streamApart", fn := fun _ => fun
  | [d1, d2] => { results := [.lit (.bool false)], args := [d1, d2] }
  | _ => none }
def StreamApartWrongFalsely : Prop := streamApartRow.holds Try.pinned (OpenSpec.ofChange streamApartWrong)

/-- 'revetmentlaw16.StreamSizes': WHATEVER THE INPUT: true; the input reads as it did. -/
def streamSizesSpec : ChangeSpec := { name := "streamSizes", fn := fun _ => fun
  | [d1, d2, d3] => { results := [.lit (.bool true)], args := [d1, d2, d3] }
  | _ => none }
def streamSizesRow : OpenClaim := { program := "ytlnljanhnodhkaa", sum := "668bc23b8d0a947f37638cef9e6f9991bb4c6953d786e9aabfc1875d94d78d09", func := "revetment/revetmentlaw16.StreamSizes", spec := "streamSizes", unfollowed := true, recurses := true, apart := false }
def StreamSizesSaid : Prop := streamSizesRow.holds Try.pinned (OpenSpec.ofChange streamSizesSpec)

/-- ITS FALSE NEIGHBOUR: 'it returns false'. Refute it at one input. -/
def streamSizesWrong : ChangeSpec := { name := "streamSizes", fn := fun _ => fun
  | [d1, d2, d3] => { results := [.lit (.bool false)], args := [d1, d2, d3] }
  | _ => none }
def StreamSizesWrongFalsely : Prop := streamSizesRow.holds Try.pinned (OpenSpec.ofChange streamSizesWrong)

/-- 'revetmentlaw16.StreamOrder': WHATEVER THE INPUT: true; the input reads as it did. -/
def streamOrderSpec : ChangeSpec := { name := "streamOrder", fn := fun _ => fun
  | [d1, d2] => { results := [.lit (.bool true)], args := [d1, d2] }
  | _ => none }
def streamOrderRow : OpenClaim := { program := "ytlnljanhnodhkaa", sum := "668bc23b8d0a947f37638cef9e6f9991bb4c6953d786e9aabfc1875d94d78d09", func := "revetment/revetmentlaw16.StreamOrder", spec := "streamOrder", unfollowed := true, recurses := true, apart := false }
def StreamOrderSaid : Prop := streamOrderRow.holds Try.pinned (OpenSpec.ofChange streamOrderSpec)

/-- ITS FALSE NEIGHBOUR: 'it returns false'. Refute it at one input. -/
def streamOrderWrong : ChangeSpec := { name := "streamOrder", fn := fun _ => fun
  | [d1, d2] => { results := [.lit (.bool false)], args := [d1, d2] }
  | _ => none }
def StreamOrderWrongFalsely : Prop := streamOrderRow.holds Try.pinned (OpenSpec.ofChange streamOrderWrong)

/- THE SECOND FORM. 'bulk': how many values and letters a reading holds, each counted each time it is reached (what is shared counts as often as it is met; a slice's spare places count too). A statement '..UptoSaid' is the law's where the arguments, and the package variables that the reading takes, are together of bulk at most 1048576: NARROWER than '..Said'. Prove '..Said' where nothing that the law and all that it calls make is longer than what came in: it says more and counts as full. Else prove '..UptoSaid'. A law counts once. -/
mutual
def uptoBulk {H : Type} : DataW H → Nat
  | .lit (.string bytes) => bytes.length + 1
  | .lit _ => 1
  | .nil => 1
  | .ptr d => uptoBulk d + 1
  | .slice elems spare => uptoBulkAll elems + uptoBulkAll spare + 1
  | .agg parts => uptoBulkAll parts + 1
  | .iface _ d => uptoBulk d + 1
  | .map entries => uptoBulkEntries entries + 1
  | .held _ => 1
def uptoBulkAll {H : Type} : List (DataW H) → Nat
  | [] => 0
  | d :: r => uptoBulk d + uptoBulkAll r
def uptoBulkEntries {H : Type} : List (Lit × DataW H) → Nat
  | [] => 0
  | x :: r => uptoBulkEntry x + uptoBulkEntries r
def uptoBulkEntry {H : Type} : Lit × DataW H → Nat
  | (.string bytes, d) => bytes.length + uptoBulk d + 1
  | (_, d) => uptoBulk d + 1
 end
def uptoSmall : (H : Type) → List (DataW H) → Bool := fun _ ds => decide (uptoBulkAll ds ≤ 1048576)
def OpenSpec.upto (s : _root_.Go.ChangeSpec) : _root_.Go.OpenSpec := { _root_.Go.OpenSpec.ofChange s with cond := some uptoSmall }

/-- 'revetmentlaw16.StreamCodes', WHERE WHAT IT READS IS OF BULK AT MOST 1048576: true; the input reads as it did. -/
def streamCodesUptoRow : OpenClaim := { program := "ytlnljanhnodhkaa", sum := "668bc23b8d0a947f37638cef9e6f9991bb4c6953d786e9aabfc1875d94d78d09", func := "revetment/revetmentlaw16.StreamCodes", spec := "streamCodes", unfollowed := true, recurses := true, apart := false, narrowed := true }
def StreamCodesUptoSaid : Prop := streamCodesUptoRow.holds Try.pinned (OpenSpec.upto streamCodesSpec)

/-- 'revetmentlaw16.StreamApart', WHERE WHAT IT READS IS OF BULK AT MOST 1048576: true; the input reads as it did. -/
def streamApartUptoRow : OpenClaim := { program := "ytlnljanhnodhkaa", sum := "668bc23b8d0a947f37638cef9e6f9991bb4c6953d786e9aabfc1875d94d78d09", func := "revetment/revetmentlaw16.StreamApart", spec := "streamApart", unfollowed := true, recurses := true, apart := false, narrowed := true }
def StreamApartUptoSaid : Prop := streamApartUptoRow.holds Try.pinned (OpenSpec.upto streamApartSpec)

/-- 'revetmentlaw16.StreamSizes', WHERE WHAT IT READS IS OF BULK AT MOST 1048576: true; the input reads as it did. -/
def streamSizesUptoRow : OpenClaim := { program := "ytlnljanhnodhkaa", sum := "668bc23b8d0a947f37638cef9e6f9991bb4c6953d786e9aabfc1875d94d78d09", func := "revetment/revetmentlaw16.StreamSizes", spec := "streamSizes", unfollowed := true, recurses := true, apart := false, narrowed := true }
def StreamSizesUptoSaid : Prop := streamSizesUptoRow.holds Try.pinned (OpenSpec.upto streamSizesSpec)

/-- 'revetmentlaw16.StreamOrder', WHERE WHAT IT READS IS OF BULK AT MOST 1048576: true; the input reads as it did. -/
def streamOrderUptoRow : OpenClaim := { program := "ytlnljanhnodhkaa", sum := "668bc23b8d0a947f37638cef9e6f9991bb4c6953d786e9aabfc1875d94d78d09", func := "revetment/revetmentlaw16.StreamOrder", spec := "streamOrder", unfollowed := true, recurses := true, apart := false, narrowed := true }
def StreamOrderUptoSaid : Prop := streamOrderUptoRow.holds Try.pinned (OpenSpec.upto streamOrderSpec)

end Rows
end Go.Proofs.Ytlnljanhnodhkaa
