import Derived.Test.YtebpgfodelggoaaGreatDoorRows
import GoSem.ClaimSeven
set_option linter.unusedVariables false
set_option linter.unusedSimpArgs false
namespace Go.Proofs.YtebpgfodelggoaaGreatDoor
namespace Rows
def countedCard:Claim7:={ stood:={ row:=countedRow,standIns:=[],harness:=(true,"8a2616939eb28baaaa38bfdb85576507c03afb198f3feb157424521f78f0f605"),looks:=false },kinds:=[],alts:=[],laidByText:=true,laidKinds:=[.data,.data,.data],laidTests:=true,laidLooks:=.later }
def CountedCardSaid:Prop:=Claim7.holds Tryz.pinned (.plain (OpenSpec.ofChange countedSpec)) countedCard
def countedUptoCard:Claim7:={ stood:={ row:=countedUptoRow,standIns:=[],harness:=(true,"8a2616939eb28baaaa38bfdb85576507c03afb198f3feb157424521f78f0f605"),looks:=false },kinds:=[],alts:=[],laidByText:=true,laidKinds:=[.data,.data,.data],laidTests:=true,laidLooks:=.later }
def CountedUptoCardSaid:Prop:=Claim7.holds Tryz.pinned (.plain (OpenSpec.upto countedSpec)) countedUptoCard
end Rows
end Go.Proofs.YtebpgfodelggoaaGreatDoor
