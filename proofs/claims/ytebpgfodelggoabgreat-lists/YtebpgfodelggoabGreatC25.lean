import Derived.Test.YtebpgfodelggoabGreatC24
set_option linter.unusedVariables false
set_option linter.unusedSimpArgs false
namespace Go.Proofs.YtebpgfodelggoabGreat
open Go.RowKit
end Go.Proofs.YtebpgfodelggoabGreat
