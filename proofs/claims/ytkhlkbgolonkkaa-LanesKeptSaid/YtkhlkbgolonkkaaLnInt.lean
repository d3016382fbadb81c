/- Lanes: Intact of stints. Own work. -/
import Derived.Test.YtkhlkbgolonkkaaLnRoom
namespace Go.Proofs.Ytkhlkbgolonkkaa
open Go.RowKit
end Go.Proofs.Ytkhlkbgolonkkaa
