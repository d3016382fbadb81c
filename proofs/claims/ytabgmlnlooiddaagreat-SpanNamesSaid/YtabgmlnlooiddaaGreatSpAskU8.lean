/- Covers, Has, Next, Touches, Same. Own work. -/
import Derived.Test.YtabgmlnlooiddaaGreatSpFromU8
import Derived.Laws.StructEq
import Derived.Test.YtabgmlnlooiddaaGreatSpMath2
namespace Go.Proofs.YtabgmlnlooiddaaGreat.U8
open Go.RowKit Go.Shelf Go.Proofs.YtabgmlnlooiddaaGreat.Sp

end Go.Proofs.YtabgmlnlooiddaaGreat.U8
