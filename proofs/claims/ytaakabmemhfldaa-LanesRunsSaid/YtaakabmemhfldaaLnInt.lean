/- Lanes: Intact of stints. Own work. -/
import Derived.Test.YtaakabmemhfldaaLnRoom
namespace Go.Proofs.Ytaakabmemhfldaa
open Go.RowKit
end Go.Proofs.Ytaakabmemhfldaa
