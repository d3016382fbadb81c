/- Reader.Seal, Reader.Bytes. -/
import Derived.Test.YtmkmdcoofngkiaaRPad2
namespace Go.Proofs.Ytmkmdcoofngkiaa
open Go.RowKit
theorem Tab.stay {w w' : World} (h : Tab w) (hs : Stay w w') : Tab w' := h.below hs.2
theorem Row.mid {w : World} {g : Nat} {zs : List Nat} (h : Row w g zs) (hz : ∀ z ∈ zs, z < 256) (fr pos : Nat) (h1 : fr ≤ pos) (h2 : pos ≤ zs.length) (h3 : zs.length ≤ 1099511627776) : Sl w (.slice (some ⟨g, fr, none⟩) (pos - fr) (zs.length - fr)) ((zs.drop fr).take (pos - fr)) :=
  h.sl hz fr (pos - fr) (zs.length - fr) (by omega) (by omega) (by unfold maxLen; omega)
theorem num4_le {zs : List Nat} (h : ∀ z ∈ zs, z < 256) : Pl.num 4 zs ≤ 4294967295 := Nat.le_of_lt_succ (Pl.acc_lt h 0 4)
end Go.Proofs.Ytmkmdcoofngkiaa
