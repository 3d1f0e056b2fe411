/-
  No cell of these rows narrows 'for every input' (looked for: loops, veiled, ifaces, maps, wideKeys, modest, calm, conditions, laid).
  DERIVED. THE GIVEN ROWS OF THIS SEAT. 6 by the template 'for every input the law returns true; each argument reads behind the call as it read before'; 0 by the template 'total and deterministic' (their statements: YtebpgfodelggoaaGreatTotals.lean).
  GIVEN WITH THE SEED: the statements are not yours to turn. If you find one false, say at which input.
  Laid BY PROGRAM, IN A SANDBOX (cutbox-rows.mjs): the forced cells as the released guide's own fill.sh prints them over the translation 3897a824ebb92c6f… (all of the seat's roots in one cut). By AI agents, Wed Nov 11 2026. No macro, syntax, notation, axiom, sorry.
-/
import Derived.Test.YtebpgfodelggoaaGreatChecked
import GoSem.Claim
import GoSem.ClaimJoined
import GoSem.ClaimMapViews
import Derived.JoinedTies
import Derived.KernelRfl
namespace Go.Proofs.YtebpgfodelggoaaGreat
/- THE CELL 'sum', in the pinned program and in every row, IS THE sha256 OF THE DUMP (.gsa) THAT YtebpgfodelggoaaGreatProg.lean LOADS. Nothing in Lean hashes anything: it is a label: what it is worth is what the hold of that sum in a sandbox is worth. -/
noncomputable def Tryz.pinned : Pinned := { name := "ytebpgfodelggoaagreat", sum := "3897a824ebb92c6fdb6902ef6decf59e419bde1b0a05b9c5246b2e129a015892", checked := Tryz.checked }
namespace Rows
def none {H : Type} : Left H := { results := [], args := [] }

/-- 'matcherlaw.Checks': WHATEVER THE INPUT: true; the input reads as it did. -/
def checksSpec : ChangeSpec := { name := "checks", fn := fun _ => fun
  | [d] => { results := [.lit (.bool true)], args := [d] }
  | _ => none }
def checksRow : OpenClaim := { program := "ytebpgfodelggoaagreat", sum := "3897a824ebb92c6fdb6902ef6decf59e419bde1b0a05b9c5246b2e129a015892", func := "matcher/matcherlaw.Checks", spec := "checks", recurses := true, apart := false }
def ChecksSaid : Prop := checksRow.holds Tryz.pinned (OpenSpec.ofChange checksSpec)

/-- ITS FALSE NEIGHBOUR: 'it returns false'. Refute it at one input. -/
def checksWrong : ChangeSpec := { name := "checks", fn := fun _ => fun
  | [d] => { results := [.lit (.bool false)], args := [d] }
  | _ => none }
def ChecksWrongFalsely : Prop := checksRow.holds Tryz.pinned (OpenSpec.ofChange checksWrong)

/-- 'matcherlaw.Codes': WHATEVER THE INPUT: true; the input reads as it did. -/
def codesSpec : ChangeSpec := { name := "codes", fn := fun _ => fun
  | [d] => { results := [.lit (.bool true)], args := [d] }
  | _ => none }
def codesRow : OpenClaim := { program := "ytebpgfodelggoaagreat", sum := "3897a824ebb92c6fdb6902ef6decf59e419bde1b0a05b9c5246b2e129a015892", func := "matcher/matcherlaw.Codes", spec := "codes", recurses := true, apart := false }
def CodesSaid : Prop := codesRow.holds Tryz.pinned (OpenSpec.ofChange codesSpec)

/-- ITS FALSE NEIGHBOUR: 'it returns false'. Refute it at one input. -/
def codesWrong : ChangeSpec := { name := "codes", fn := fun _ => fun
  | [d] => { results := [.lit (.bool false)], args := [d] }
  | _ => none }
def CodesWrongFalsely : Prop := codesRow.holds Tryz.pinned (OpenSpec.ofChange codesWrong)

/-- 'matcherlaw.Searches': WHATEVER THE INPUT: true; the input reads as it did. -/
def searchesSpec : ChangeSpec := { name := "searches", fn := fun _ => fun
  | [d] => { results := [.lit (.bool true)], args := [d] }
  | _ => none }
def searchesRow : OpenClaim := { program := "ytebpgfodelggoaagreat", sum := "3897a824ebb92c6fdb6902ef6decf59e419bde1b0a05b9c5246b2e129a015892", func := "matcher/matcherlaw.Searches", spec := "searches", recurses := true, apart := false }
def SearchesSaid : Prop := searchesRow.holds Tryz.pinned (OpenSpec.ofChange searchesSpec)

/-- ITS FALSE NEIGHBOUR: 'it returns false'. Refute it at one input. -/
def searchesWrong : ChangeSpec := { name := "searches", fn := fun _ => fun
  | [d] => { results := [.lit (.bool false)], args := [d] }
  | _ => none }
def SearchesWrongFalsely : Prop := searchesRow.holds Tryz.pinned (OpenSpec.ofChange searchesWrong)

/-- 'matcherlaw.Picks': WHATEVER THE INPUT: true; the input reads as it did. -/
def picksSpec : ChangeSpec := { name := "picks", fn := fun _ => fun
  | [d] => { results := [.lit (.bool true)], args := [d] }
  | _ => none }
def picksRow : OpenClaim := { program := "ytebpgfodelggoaagreat", sum := "3897a824ebb92c6fdb6902ef6decf59e419bde1b0a05b9c5246b2e129a015892", func := "matcher/matcherlaw.Picks", spec := "picks", recurses := true, apart := false }
def PicksSaid : Prop := picksRow.holds Tryz.pinned (OpenSpec.ofChange picksSpec)

/-- ITS FALSE NEIGHBOUR: 'it returns false'. Refute it at one input. -/
def picksWrong : ChangeSpec := { name := "picks", fn := fun _ => fun
  | [d] => { results := [.lit (.bool false)], args := [d] }
  | _ => none }
def PicksWrongFalsely : Prop := picksRow.holds Tryz.pinned (OpenSpec.ofChange picksWrong)

/-- 'matcherlaw.Finds': WHATEVER THE INPUT: true; the input reads as it did. -/
def findsSpec : ChangeSpec := { name := "finds", fn := fun _ => fun
  | [d] => { results := [.lit (.bool true)], args := [d] }
  | _ => none }
def findsRow : OpenClaim := { program := "ytebpgfodelggoaagreat", sum := "3897a824ebb92c6fdb6902ef6decf59e419bde1b0a05b9c5246b2e129a015892", func := "matcher/matcherlaw.Finds", spec := "finds", recurses := true, apart := false }
def FindsSaid : Prop := findsRow.holds Tryz.pinned (OpenSpec.ofChange findsSpec)

/-- ITS FALSE NEIGHBOUR: 'it returns false'. Refute it at one input. -/
def findsWrong : ChangeSpec := { name := "finds", fn := fun _ => fun
  | [d] => { results := [.lit (.bool false)], args := [d] }
  | _ => none }
def FindsWrongFalsely : Prop := findsRow.holds Tryz.pinned (OpenSpec.ofChange findsWrong)

/-- 'matcherlaw.Means': WHATEVER THE INPUT: true; the input reads as it did. -/
def meansSpec : ChangeSpec := { name := "means", fn := fun _ => fun
  | [d] => { results := [.lit (.bool true)], args := [d] }
  | _ => none }
def meansRow : OpenClaim := { program := "ytebpgfodelggoaagreat", sum := "3897a824ebb92c6fdb6902ef6decf59e419bde1b0a05b9c5246b2e129a015892", func := "matcher/matcherlaw.Means", spec := "means", recurses := true, apart := false }
def MeansSaid : Prop := meansRow.holds Tryz.pinned (OpenSpec.ofChange meansSpec)

/-- ITS FALSE NEIGHBOUR: 'it returns false'. Refute it at one input. -/
def meansWrong : ChangeSpec := { name := "means", fn := fun _ => fun
  | [d] => { results := [.lit (.bool false)], args := [d] }
  | _ => none }
def MeansWrongFalsely : Prop := meansRow.holds Tryz.pinned (OpenSpec.ofChange meansWrong)

/- THE SECOND FORM. 'bulk': how many values and letters a reading holds, each counted each time it is reached (what is shared counts as often as it is met; a slice's spare places count too). A statement '..UptoSaid' is the law's where the arguments, and the package variables that the reading takes, are together of bulk at most 1048576: NARROWER than '..Said'. Prove '..Said' where nothing that the law and all that it calls make is longer than what came in: it says more and counts as full. Else prove '..UptoSaid'. A law counts once. -/
mutual
def uptoBulk {H : Type} : DataW H → Nat
  | .lit (.string bytes) => bytes.length + 1
  | .lit _ => 1
  | .nil => 1
  | .ptr d => uptoBulk d + 1
  | .slice elems spare => uptoBulkAll elems + uptoBulkAll spare + 1
  | .agg parts => uptoBulkAll parts + 1
  | .iface _ d => uptoBulk d + 1
  | .map entries => uptoBulkEntries entries + 1
  | .held _ => 1
def uptoBulkAll {H : Type} : List (DataW H) → Nat
  | [] => 0
  | d :: r => uptoBulk d + uptoBulkAll r
def uptoBulkEntries {H : Type} : List (Lit × DataW H) → Nat
  | [] => 0
  | x :: r => uptoBulkEntry x + uptoBulkEntries r
def uptoBulkEntry {H : Type} : Lit × DataW H → Nat
  | (.string bytes, d) => bytes.length + uptoBulk d + 1
  | (_, d) => uptoBulk d + 1
 end
def uptoSmall : (H : Type) → List (DataW H) → Bool := fun _ ds => decide (uptoBulkAll ds ≤ 1048576)
def OpenSpec.upto (s : _root_.Go.ChangeSpec) : _root_.Go.OpenSpec := { _root_.Go.OpenSpec.ofChange s with cond := some uptoSmall }

/-- 'matcherlaw.Checks', WHERE WHAT IT READS IS OF BULK AT MOST 1048576: true; the input reads as it did. -/
def checksUptoRow : OpenClaim := { program := "ytebpgfodelggoaagreat", sum := "3897a824ebb92c6fdb6902ef6decf59e419bde1b0a05b9c5246b2e129a015892", func := "matcher/matcherlaw.Checks", spec := "checks", recurses := true, apart := false, narrowed := true }
def ChecksUptoSaid : Prop := checksUptoRow.holds Tryz.pinned (OpenSpec.upto checksSpec)

/-- 'matcherlaw.Codes', WHERE WHAT IT READS IS OF BULK AT MOST 1048576: true; the input reads as it did. -/
def codesUptoRow : OpenClaim := { program := "ytebpgfodelggoaagreat", sum := "3897a824ebb92c6fdb6902ef6decf59e419bde1b0a05b9c5246b2e129a015892", func := "matcher/matcherlaw.Codes", spec := "codes", recurses := true, apart := false, narrowed := true }
def CodesUptoSaid : Prop := codesUptoRow.holds Tryz.pinned (OpenSpec.upto codesSpec)

/-- 'matcherlaw.Searches', WHERE WHAT IT READS IS OF BULK AT MOST 1048576: true; the input reads as it did. -/
def searchesUptoRow : OpenClaim := { program := "ytebpgfodelggoaagreat", sum := "3897a824ebb92c6fdb6902ef6decf59e419bde1b0a05b9c5246b2e129a015892", func := "matcher/matcherlaw.Searches", spec := "searches", recurses := true, apart := false, narrowed := true }
def SearchesUptoSaid : Prop := searchesUptoRow.holds Tryz.pinned (OpenSpec.upto searchesSpec)

/-- 'matcherlaw.Picks', WHERE WHAT IT READS IS OF BULK AT MOST 1048576: true; the input reads as it did. -/
def picksUptoRow : OpenClaim := { program := "ytebpgfodelggoaagreat", sum := "3897a824ebb92c6fdb6902ef6decf59e419bde1b0a05b9c5246b2e129a015892", func := "matcher/matcherlaw.Picks", spec := "picks", recurses := true, apart := false, narrowed := true }
def PicksUptoSaid : Prop := picksUptoRow.holds Tryz.pinned (OpenSpec.upto picksSpec)

/-- 'matcherlaw.Finds', WHERE WHAT IT READS IS OF BULK AT MOST 1048576: true; the input reads as it did. -/
def findsUptoRow : OpenClaim := { program := "ytebpgfodelggoaagreat", sum := "3897a824ebb92c6fdb6902ef6decf59e419bde1b0a05b9c5246b2e129a015892", func := "matcher/matcherlaw.Finds", spec := "finds", recurses := true, apart := false, narrowed := true }
def FindsUptoSaid : Prop := findsUptoRow.holds Tryz.pinned (OpenSpec.upto findsSpec)

/-- 'matcherlaw.Means', WHERE WHAT IT READS IS OF BULK AT MOST 1048576: true; the input reads as it did. -/
def meansUptoRow : OpenClaim := { program := "ytebpgfodelggoaagreat", sum := "3897a824ebb92c6fdb6902ef6decf59e419bde1b0a05b9c5246b2e129a015892", func := "matcher/matcherlaw.Means", spec := "means", recurses := true, apart := false, narrowed := true }
def MeansUptoSaid : Prop := meansUptoRow.holds Tryz.pinned (OpenSpec.upto meansSpec)

end Rows
end Go.Proofs.YtebpgfodelggoaaGreat
