/-
  No cell of these rows narrows 'for every input' (looked for: loops, veiled, ifaces, maps, wideKeys, modest, calm, conditions, laid).
  DERIVED. THE GIVEN ROWS OF THIS SEAT. 5 by the template 'for every input the law returns true; each argument reads behind the call as it read before'; 0 by the template 'total and deterministic' (their statements: YtebpgfodelggoabTotals.lean).
  GIVEN WITH THE SEED: the statements are not yours to turn. If you find one false, say at which input.
  Laid BY PROGRAM, IN A SANDBOX (cutbox-rows.mjs): the forced cells as the released guide's own fill.sh prints them over the translation f444ab74dbc421bd… (all of the seat's roots in one cut). By AI agents, Wed Nov 11 2026. No macro, syntax, notation, axiom, sorry.
-/
import Derived.Test.YtebpgfodelggoabChecked
import GoSem.Claim
import GoSem.ClaimJoined
import GoSem.ClaimMapViews
import Derived.JoinedTies
import Derived.KernelRfl
namespace Go.Proofs.Ytebpgfodelggoab
/- THE CELL 'sum', in the pinned program and in every row, IS THE sha256 OF THE DUMP (.gsa) THAT YtebpgfodelggoabProg.lean LOADS. Nothing in Lean hashes anything: it is a label: what it is worth is what the hold of that sum in a sandbox is worth. -/
noncomputable def Try.pinned : Pinned := { name := "ytebpgfodelggoab", sum := "f444ab74dbc421bd6183cb5783662ac2fdbdb746f5031919a4acc3dece960d40", checked := Try.checked }
namespace Rows
def none {H : Type} : Left H := { results := [], args := [] }

/-- 'matcherkeep.Alike': WHATEVER THE INPUT: true; the input reads as it did. -/
def alikeSpec : ChangeSpec := { name := "alike", fn := fun _ => fun
  | [d1, d2, d3, d4, d5] => { results := [.lit (.bool true)], args := [d1, d2, d3, d4, d5] }
  | _ => none }
def alikeRow : OpenClaim := { program := "ytebpgfodelggoab", sum := "f444ab74dbc421bd6183cb5783662ac2fdbdb746f5031919a4acc3dece960d40", func := "matcher/matcherkeep.Alike", spec := "alike", recurses := true, apart := false }
def AlikeSaid : Prop := alikeRow.holds Try.pinned (OpenSpec.ofChange alikeSpec)

/-- ITS FALSE NEIGHBOUR: 'it returns false'. Refute it at one input. -/
def alikeWrong : ChangeSpec := { name := "alike", fn := fun _ => fun
  | [d1, d2, d3, d4, d5] => { results := [.lit (.bool false)], args := [d1, d2, d3, d4, d5] }
  | _ => none }
def AlikeWrongFalsely : Prop := alikeRow.holds Try.pinned (OpenSpec.ofChange alikeWrong)

/-- 'matcherkeep.Fewer': WHATEVER THE INPUT: true; the input reads as it did. -/
def fewerSpec : ChangeSpec := { name := "fewer", fn := fun _ => fun
  | [d1, d2, d3, d4, d5] => { results := [.lit (.bool true)], args := [d1, d2, d3, d4, d5] }
  | _ => none }
def fewerRow : OpenClaim := { program := "ytebpgfodelggoab", sum := "f444ab74dbc421bd6183cb5783662ac2fdbdb746f5031919a4acc3dece960d40", func := "matcher/matcherkeep.Fewer", spec := "fewer", recurses := true, apart := false }
def FewerSaid : Prop := fewerRow.holds Try.pinned (OpenSpec.ofChange fewerSpec)

/-- ITS FALSE NEIGHBOUR: 'it returns false'. Refute it at one input. -/
def fewerWrong : ChangeSpec := { name := "fewer", fn := fun _ => fun
  | [d1, d2, d3, d4, d5] => { results := [.lit (.bool false)], args := [d1, d2, d3, d4, d5] }
  | _ => none }
def FewerWrongFalsely : Prop := fewerRow.holds Try.pinned (OpenSpec.ofChange fewerWrong)

/-- 'matcherkeep.Linear': WHATEVER THE INPUT: true; the input reads as it did. -/
def linearSpec : ChangeSpec := { name := "linear", fn := fun _ => fun
  | [d1, d2] => { results := [.lit (.bool true)], args := [d1, d2] }
  | _ => none }
def linearRow : OpenClaim := { program := "ytebpgfodelggoab", sum := "f444ab74dbc421bd6183cb5783662ac2fdbdb746f5031919a4acc3dece960d40", func := "matcher/matcherkeep.Linear", spec := "linear", recurses := true, apart := false }
def LinearSaid : Prop := linearRow.holds Try.pinned (OpenSpec.ofChange linearSpec)

/-- ITS FALSE NEIGHBOUR: 'it returns false'. Refute it at one input. -/
def linearWrong : ChangeSpec := { name := "linear", fn := fun _ => fun
  | [d1, d2] => { results := [.lit (.bool false)], args := [d1, d2] }
  | _ => none }
def LinearWrongFalsely : Prop := linearRow.holds Try.pinned (OpenSpec.ofChange linearWrong)

/-- 'matcherkeep.Kleene': WHATEVER THE INPUT: true; the input reads as it did. -/
def kleeneSpec : ChangeSpec := { name := "kleene", fn := fun _ => fun
  | [d1, d2] => { results := [.lit (.bool true)], args := [d1, d2] }
  | _ => none }
def kleeneRow : OpenClaim := { program := "ytebpgfodelggoab", sum := "f444ab74dbc421bd6183cb5783662ac2fdbdb746f5031919a4acc3dece960d40", func := "matcher/matcherkeep.Kleene", spec := "kleene", recurses := true, apart := false }
def KleeneSaid : Prop := kleeneRow.holds Try.pinned (OpenSpec.ofChange kleeneSpec)

/-- ITS FALSE NEIGHBOUR: 'it returns false'. Refute it at one input. -/
def kleeneWrong : ChangeSpec := { name := "kleene", fn := fun _ => fun
  | [d1, d2] => { results := [.lit (.bool false)], args := [d1, d2] }
  | _ => none }
def KleeneWrongFalsely : Prop := kleeneRow.holds Try.pinned (OpenSpec.ofChange kleeneWrong)

/-- 'matcherkeep.Chained': WHATEVER THE INPUT: true; the input reads as it did. -/
def chainedSpec : ChangeSpec := { name := "chained", fn := fun _ => fun
  | [d1, d2, d3] => { results := [.lit (.bool true)], args := [d1, d2, d3] }
  | _ => none }
def chainedRow : OpenClaim := { program := "ytebpgfodelggoab", sum := "f444ab74dbc421bd6183cb5783662ac2fdbdb746f5031919a4acc3dece960d40", func := "matcher/matcherkeep.Chained", spec := "chained", recurses := true, apart := false }
def ChainedSaid : Prop := chainedRow.holds Try.pinned (OpenSpec.ofChange chainedSpec)

/-- ITS FALSE NEIGHBOUR: 'it returns false'. Refute it at one input. -/
def chainedWrong : ChangeSpec := { name := "chained", fn := fun _ => fun
  | [d1, d2, d3] => { results := [.lit (.bool false)], args := [d1, d2, d3] }
  | _ => none }
def ChainedWrongFalsely : Prop := chainedRow.holds Try.pinned (OpenSpec.ofChange chainedWrong)

/- THE SECOND FORM. 'bulk': how many values and letters a reading holds, each counted each time it is reached (what is shared counts as often as it is met; a slice's spare places count too). A statement '..UptoSaid' is the law's where the arguments, and the package variables that the reading takes, are together of bulk at most 1048576: NARROWER than '..Said'. Prove '..Said' where nothing that the law and all that it calls make is longer than what came in: it says more and counts as full. Else prove '..UptoSaid'. A law counts once. -/
mutual
def uptoBulk {H : Type} : DataW H → Nat
  | .lit (.string bytes) => bytes.length + 1
  | .lit _ => 1
  | .nil => 1
  | .ptr d => uptoBulk d + 1
  | .slice elems spare => uptoBulkAll elems + uptoBulkAll spare + 1
  | .agg parts => uptoBulkAll parts + 1
  | .iface _ d => uptoBulk d + 1
  | .map entries => uptoBulkEntries entries + 1
  | .held _ => 1
def uptoBulkAll {H : Type} : List (DataW H) → Nat
  | [] => 0
  | d :: r => uptoBulk d + uptoBulkAll r
def uptoBulkEntries {H : Type} : List (Lit × DataW H) → Nat
  | [] => 0
  | x :: r => uptoBulkEntry x + uptoBulkEntries r
def uptoBulkEntry {H : Type} : Lit × DataW H → Nat
  | (.string bytes, d) => bytes.length + uptoBulk d + 1
  | (_, d) => uptoBulk d + 1
 end
def uptoSmall : (H : Type) → List (DataW H) → Bool := fun _ ds => decide (uptoBulkAll ds ≤ 1048576)
def OpenSpec.upto (s : _root_.Go.ChangeSpec) : _root_.Go.OpenSpec := { _root_.Go.OpenSpec.ofChange s with cond := some uptoSmall }

/-- 'matcherkeep.Alike', WHERE WHAT IT READS IS OF BULK AT MOST 1048576: true; the input reads as it did. -/
def alikeUptoRow : OpenClaim := { program := "ytebpgfodelggoab", sum := "f444ab74dbc421bd6183cb5783662ac2fdbdb746f5031919a4acc3dece960d40", func := "matcher/matcherkeep.Alike", spec := "alike", recurses := true, apart := false, narrowed := true }
def AlikeUptoSaid : Prop := alikeUptoRow.holds Try.pinned (OpenSpec.upto alikeSpec)

/-- 'matcherkeep.Fewer', WHERE WHAT IT READS IS OF BULK AT MOST 1048576: true; the input reads as it did. -/
def fewerUptoRow : OpenClaim := { program := "ytebpgfodelggoab", sum := "f444ab74dbc421bd6183cb5783662ac2fdbdb746f5031919a4acc3dece960d40", func := "matcher/matcherkeep.Fewer", spec := "fewer", recurses := true, apart := false, narrowed := true }
def FewerUptoSaid : Prop := fewerUptoRow.holds Try.pinned (OpenSpec.upto fewerSpec)

/-- 'matcherkeep.Linear', WHERE WHAT IT READS IS OF BULK AT MOST 1048576: true; the input reads as it did. -/
def linearUptoRow : OpenClaim := { program := "ytebpgfodelggoab", sum := "f444ab74dbc421bd6183cb5783662ac2fdbdb746f5031919a4acc3dece960d40", func := "matcher/matcherkeep.Linear", spec := "linear", recurses := true, apart := false, narrowed := true }
def LinearUptoSaid : Prop := linearUptoRow.holds Try.pinned (OpenSpec.upto linearSpec)

/-- 'matcherkeep.Kleene', WHERE WHAT IT READS IS OF BULK AT MOST 1048576: true; the input reads as it did. -/
def kleeneUptoRow : OpenClaim := { program := "ytebpgfodelggoab", sum := "f444ab74dbc421bd6183cb5783662ac2fdbdb746f5031919a4acc3dece960d40", func := "matcher/matcherkeep.Kleene", spec := "kleene", recurses := true, apart := false, narrowed := true }
def KleeneUptoSaid : Prop := kleeneUptoRow.holds Try.pinned (OpenSpec.upto kleeneSpec)

/-- 'matcherkeep.Chained', WHERE WHAT IT READS IS OF BULK AT MOST 1048576: true; the input reads as it did. -/
def chainedUptoRow : OpenClaim := { program := "ytebpgfodelggoab", sum := "f444ab74dbc421bd6183cb5783662ac2fdbdb746f5031919a4acc3dece960d40", func := "matcher/matcherkeep.Chained", spec := "chained", recurses := true, apart := false, narrowed := true }
def ChainedUptoSaid : Prop := chainedUptoRow.holds Try.pinned (OpenSpec.upto chainedSpec)

end Rows
end Go.Proofs.Ytebpgfodelggoab
