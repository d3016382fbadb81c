/- Or, Meet, Less. Own work (made by a program). -/
import Derived.Test.YtabgmlnlooiddaaGreatSpMergeU64
namespace Go.Proofs.YtabgmlnlooiddaaGreat.U64
open Go.RowKit Go.Shelf Go.Proofs.YtabgmlnlooiddaaGreat.Sp


end Go.Proofs.YtabgmlnlooiddaaGreat.U64
