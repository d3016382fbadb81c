/- Lanes: Intact of stints. Own work. -/
import Derived.Test.YtmgekglndjigiaaLnRoom
namespace Go.Proofs.Ytmgekglndjigiaa
open Go.RowKit
end Go.Proofs.Ytmgekglndjigiaa
