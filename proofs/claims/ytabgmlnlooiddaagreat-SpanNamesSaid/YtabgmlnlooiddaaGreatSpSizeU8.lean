/- beyond, Size, Largest. Own work. -/
import Derived.Test.YtabgmlnlooiddaaGreatSpWithU8
import Derived.Test.YtabgmlnlooiddaaGreatSpNumU64
import Derived.Test.YtabgmlnlooiddaaGreatSpMath2
namespace Go.Proofs.YtabgmlnlooiddaaGreat.U8
open Go.RowKit Go.Shelf Go.Proofs.YtabgmlnlooiddaaGreat.Sp

end Go.Proofs.YtabgmlnlooiddaaGreat.U8
