/- At a seat of word: the word's own texts take SWord's place. Own work. -/
import Derived.Test.YtmkmdcoofngkiaaRText
import Derived.WalkKit
import Derived.WalkSpells
import Derived.WalkLawsBesides
import Derived.Laws.BitsAllLaws
import Derived.Deep.QuietTactic
import Derived.BigQuiet
import Derived.Laws.CopyOwn
import Derived.Maps.AppendAt
import Derived.Deep.AppendSrc
import Derived.Laws.IdiomStrings
import Derived.Laws.BytesArg
namespace Go.Proofs.Ytmkmdcoofngkiaa
namespace Sc
end Sc
end Go.Proofs.Ytmkmdcoofngkiaa
