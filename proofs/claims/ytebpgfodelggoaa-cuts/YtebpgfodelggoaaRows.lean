/-
  No cell of these rows narrows 'for every input' (looked for: loops, veiled, ifaces, maps, wideKeys, modest, calm, conditions, laid).
  DERIVED. THE GIVEN ROWS OF THIS SEAT. 4 by the template 'for every input the law returns true; each argument reads behind the call as it read before'; 0 by the template 'total and deterministic' (their statements: YtebpgfodelggoaaTotals.lean).
  GIVEN WITH THE SEED: the statements are not yours to turn. If you find one false, say at which input.
  Laid BY PROGRAM, IN A SANDBOX (cutbox-rows.mjs): the forced cells as the released guide's own fill.sh prints them over the translation d4d237a3a65c21de… (all of the seat's roots in one cut). By AI agents, Wed Nov 11 2026. No macro, syntax, notation, axiom, sorry.
-/
import Derived.Test.YtebpgfodelggoaaChecked
import GoSem.Claim
import GoSem.ClaimJoined
import GoSem.ClaimMapViews
import Derived.JoinedTies
import Derived.KernelRfl
namespace Go.Proofs.Ytebpgfodelggoaa
/- THE CELL 'sum', in the pinned program and in every row, IS THE sha256 OF THE DUMP (.gsa) THAT YtebpgfodelggoaaProg.lean LOADS. Nothing in Lean hashes anything: it is a label: what it is worth is what the hold of that sum in a sandbox is worth. -/
noncomputable def Try.pinned : Pinned := { name := "ytebpgfodelggoaa", sum := "d4d237a3a65c21de581a4445b50984baa67ec826385fc92d0e1156a9a83ce60d", checked := Try.checked }
namespace Rows
def none {H : Type} : Left H := { results := [], args := [] }

/-- 'matcherkeep.Sugar': WHATEVER THE INPUT: true; the input reads as it did. -/
def sugarSpec : ChangeSpec := { name := "sugar", fn := fun _ => fun
  | [d] => { results := [.lit (.bool true)], args := [d] }
  | _ => none }
def sugarRow : OpenClaim := { program := "ytebpgfodelggoaa", sum := "d4d237a3a65c21de581a4445b50984baa67ec826385fc92d0e1156a9a83ce60d", func := "matcher/matcherkeep.Sugar", spec := "sugar", recurses := true, apart := false }
def SugarSaid : Prop := sugarRow.holds Try.pinned (OpenSpec.ofChange sugarSpec)

/-- ITS FALSE NEIGHBOUR: 'it returns false'. Refute it at one input. -/
def sugarWrong : ChangeSpec := { name := "sugar", fn := fun _ => fun
  | [d] => { results := [.lit (.bool false)], args := [d] }
  | _ => none }
def SugarWrongFalsely : Prop := sugarRow.holds Try.pinned (OpenSpec.ofChange sugarWrong)

/-- 'matcherkeep.Order': WHATEVER THE INPUT: true; the input reads as it did. -/
def orderSpec : ChangeSpec := { name := "order", fn := fun _ => fun
  | [d1, d2, d3, d4, d5, d6, d7] => { results := [.lit (.bool true)], args := [d1, d2, d3, d4, d5, d6, d7] }
  | _ => none }
def orderRow : OpenClaim := { program := "ytebpgfodelggoaa", sum := "d4d237a3a65c21de581a4445b50984baa67ec826385fc92d0e1156a9a83ce60d", func := "matcher/matcherkeep.Order", spec := "order", recurses := true, apart := false }
def OrderSaid : Prop := orderRow.holds Try.pinned (OpenSpec.ofChange orderSpec)

/-- ITS FALSE NEIGHBOUR: 'it returns false'. Refute it at one input. -/
def orderWrong : ChangeSpec := { name := "order", fn := fun _ => fun
  | [d1, d2, d3, d4, d5, d6, d7] => { results := [.lit (.bool false)], args := [d1, d2, d3, d4, d5, d6, d7] }
  | _ => none }
def OrderWrongFalsely : Prop := orderRow.holds Try.pinned (OpenSpec.ofChange orderWrong)

/-- 'matcherkeep.Cuts': WHATEVER THE INPUT: true; the input reads as it did. -/
def cutsSpec : ChangeSpec := { name := "cuts", fn := fun _ => fun
  | [d1, d2, d3, d4, d5, d6, d7] => { results := [.lit (.bool true)], args := [d1, d2, d3, d4, d5, d6, d7] }
  | _ => none }
def cutsRow : OpenClaim := { program := "ytebpgfodelggoaa", sum := "d4d237a3a65c21de581a4445b50984baa67ec826385fc92d0e1156a9a83ce60d", func := "matcher/matcherkeep.Cuts", spec := "cuts", recurses := true, apart := false }
def CutsSaid : Prop := cutsRow.holds Try.pinned (OpenSpec.ofChange cutsSpec)

/-- ITS FALSE NEIGHBOUR: 'it returns false'. Refute it at one input. -/
def cutsWrong : ChangeSpec := { name := "cuts", fn := fun _ => fun
  | [d1, d2, d3, d4, d5, d6, d7] => { results := [.lit (.bool false)], args := [d1, d2, d3, d4, d5, d6, d7] }
  | _ => none }
def CutsWrongFalsely : Prop := cutsRow.holds Try.pinned (OpenSpec.ofChange cutsWrong)

/-- 'matcherkeep.Budgeted': WHATEVER THE INPUT: true; the input reads as it did. -/
def budgetedSpec : ChangeSpec := { name := "budgeted", fn := fun _ => fun
  | [d1, d2, d3, d4] => { results := [.lit (.bool true)], args := [d1, d2, d3, d4] }
  | _ => none }
def budgetedRow : OpenClaim := { program := "ytebpgfodelggoaa", sum := "d4d237a3a65c21de581a4445b50984baa67ec826385fc92d0e1156a9a83ce60d", func := "matcher/matcherkeep.Budgeted", spec := "budgeted", recurses := true, apart := false }
def BudgetedSaid : Prop := budgetedRow.holds Try.pinned (OpenSpec.ofChange budgetedSpec)

/-- ITS FALSE NEIGHBOUR: 'it returns false'. Refute it at one input. -/
def budgetedWrong : ChangeSpec := { name := "budgeted", fn := fun _ => fun
  | [d1, d2, d3, d4] => { results := [.lit (.bool false)], args := [d1, d2, d3, d4] }
  | _ => none }
def BudgetedWrongFalsely : Prop := budgetedRow.holds Try.pinned (OpenSpec.ofChange budgetedWrong)

/- THE SECOND FORM. 'bulk': how many values and letters a reading holds, each counted each time it is reached (what is shared counts as often as it is met; a slice's spare places count too). A statement '..UptoSaid' is the law's where the arguments, and the package variables that the reading takes, are together of bulk at most 1048576: NARROWER than '..Said'. Prove '..Said' where nothing that the law and all that it calls make is longer than what came in: it says more and counts as full. Else prove '..UptoSaid'. A law counts once. -/
mutual
def uptoBulk {H : Type} : DataW H → Nat
  | .lit (.string bytes) => bytes.length + 1
  | .lit _ => 1
  | .nil => 1
  | .ptr d => uptoBulk d + 1
  | .slice elems spare => uptoBulkAll elems + uptoBulkAll spare + 1
  | .agg parts => uptoBulkAll parts + 1
  | .iface _ d => uptoBulk d + 1
  | .map entries => uptoBulkEntries entries + 1
  | .held _ => 1
def uptoBulkAll {H : Type} : List (DataW H) → Nat
  | [] => 0
  | d :: r => uptoBulk d + uptoBulkAll r
def uptoBulkEntries {H : Type} : List (Lit × DataW H) → Nat
  | [] => 0
  | x :: r => uptoBulkEntry x + uptoBulkEntries r
def uptoBulkEntry {H : Type} : Lit × DataW H → Nat
  | (.string bytes, d) => bytes.length + uptoBulk d + 1
  | (_, d) => uptoBulk d + 1
 end
def uptoSmall : (H : Type) → List (DataW H) → Bool := fun _ ds => decide (uptoBulkAll ds ≤ 1048576)
def OpenSpec.upto (s : _root_.Go.ChangeSpec) : _root_.Go.OpenSpec := { _root_.Go.OpenSpec.ofChange s with cond := some uptoSmall }

/-- 'matcherkeep.Sugar', WHERE WHAT IT READS IS OF BULK AT MOST 1048576: true; the input reads as it did. -/
def sugarUptoRow : OpenClaim := { program := "ytebpgfodelggoaa", sum := "d4d237a3a65c21de581a4445b50984baa67ec826385fc92d0e1156a9a83ce60d", func := "matcher/matcherkeep.Sugar", spec := "sugar", recurses := true, apart := false, narrowed := true }
def SugarUptoSaid : Prop := sugarUptoRow.holds Try.pinned (OpenSpec.upto sugarSpec)

/-- 'matcherkeep.Order', WHERE WHAT IT READS IS OF BULK AT MOST 1048576: true; the input reads as it did. -/
def orderUptoRow : OpenClaim := { program := "ytebpgfodelggoaa", sum := "d4d237a3a65c21de581a4445b50984baa67ec826385fc92d0e1156a9a83ce60d", func := "matcher/matcherkeep.Order", spec := "order", recurses := true, apart := false, narrowed := true }
def OrderUptoSaid : Prop := orderUptoRow.holds Try.pinned (OpenSpec.upto orderSpec)

/-- 'matcherkeep.Cuts', WHERE WHAT IT READS IS OF BULK AT MOST 1048576: true; the input reads as it did. -/
def cutsUptoRow : OpenClaim := { program := "ytebpgfodelggoaa", sum := "d4d237a3a65c21de581a4445b50984baa67ec826385fc92d0e1156a9a83ce60d", func := "matcher/matcherkeep.Cuts", spec := "cuts", recurses := true, apart := false, narrowed := true }
def CutsUptoSaid : Prop := cutsUptoRow.holds Try.pinned (OpenSpec.upto cutsSpec)

/-- 'matcherkeep.Budgeted', WHERE WHAT IT READS IS OF BULK AT MOST 1048576: true; the input reads as it did. -/
def budgetedUptoRow : OpenClaim := { program := "ytebpgfodelggoaa", sum := "d4d237a3a65c21de581a4445b50984baa67ec826385fc92d0e1156a9a83ce60d", func := "matcher/matcherkeep.Budgeted", spec := "budgeted", recurses := true, apart := false, narrowed := true }
def BudgetedUptoSaid : Prop := budgetedUptoRow.holds Try.pinned (OpenSpec.upto budgetedSpec)

end Rows
end Go.Proofs.Ytebpgfodelggoaa
