/- Reader.Pad, Reader.Bytes. -/
import Derived.Test.YtmkmdcoofngkiaaRPad
namespace Go.Proofs.Ytmkmdcoofngkiaa
open Go.RowKit
theorem gapN_le (n al : Nat) (h1 : 1 ≤ al) (h2 : al ≤ 4096) : gapN n al ≤ 4096 := Nat.le_trans (Nat.le_of_lt (Nat.mod_lt _ h1)) h2
end Go.Proofs.Ytmkmdcoofngkiaa
