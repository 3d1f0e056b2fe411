import Derived.Test.YtebpgfodelggoaaDoorRows
import GoSem.ClaimSeven
set_option linter.unusedVariables false
set_option linter.unusedSimpArgs false
namespace Go.Proofs.YtebpgfodelggoaaDoor
namespace Rows
def squaresCard:Claim7:={ stood:={ row:=squaresRow,standIns:=[],harness:=(true,"3a4dfb83d4000ab2e352a8259ea3afd204ba0c6e26f3b6541f2e90540192fceb"),looks:=false },kinds:=[],alts:=[],laidByText:=true,laidKinds:=[.data,.data,.data],laidTests:=true,laidLooks:=.later }
def SquaresCardSaid:Prop:=Claim7.holds Tryd.pinned (.plain (OpenSpec.ofChange squaresSpec)) squaresCard
def squaresUptoCard:Claim7:={ stood:={ row:=squaresUptoRow,standIns:=[],harness:=(true,"3a4dfb83d4000ab2e352a8259ea3afd204ba0c6e26f3b6541f2e90540192fceb"),looks:=false },kinds:=[],alts:=[],laidByText:=true,laidKinds:=[.data,.data,.data],laidTests:=true,laidLooks:=.later }
def SquaresUptoCardSaid:Prop:=Claim7.holds Tryd.pinned (.plain (OpenSpec.upto squaresSpec)) squaresUptoCard
end Rows
end Go.Proofs.YtebpgfodelggoaaDoor
