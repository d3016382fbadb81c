/- chain, where no sign follows. Own work. -/
import Derived.Test.YtmkibolkcjallaaGreatDoorSyAtom
namespace Go.Proofs.YtmkibolkcjallaaGreatDoor
open Go.RowKit Go.Shelf Sc
set_option maxRecDepth 100000 in
set_option maxHeartbeats 4000000 in
theorem chain_no {w : World} {pb base b o cap g lc sg k : Nat} {zs : List Nat} {ts : List Tok} {par : Par} {ss : List ByteArray} {f : Nat} {r : Int} {G G' : World → Par → List ByteArray → List Nd → Prop}
    (he : Enters Tryz.prog f) (hpart : Calls Tryz.prog f #[.pointer (some ⟨pb, 0, none⟩)] w fun e w' => e = .returned (.int .i64 r) ∧ ∃ par' ws' ns', G w' par' ws' ns' ∧ Me pb base w par w' par')
    (hG : ∀ w1 p1 ws1 ns1, G w1 p1 ws1 ns1 → Ex w1 pb base b o cap g lc zs ts k p1 ws1 ns1 ∧ ws1.length ≤ 400)
    (hG2 : ∀ w1 p1 ws1 ns1 w2 wv, G w1 p1 ws1 ns1 → Ex w2 pb base b o cap g lc zs ts k { p1 with words := wv } (ws1 ++ ss) ns1 → Me pb base w1 p1 w2 { p1 with words := wv } → G' w2 { p1 with words := wv } (ws1 ++ ss) ns1)
    (hs : Sgn w pb par sg ss) (hk : k < ts.length) (hp : ts[k].at_ < ts[k].end_) (hq : ts[k].end_ ≤ zs.length) (hno : ∀ t ∈ ss, mkS (lexB zs ts[k]) ≠ t) (hl2 : ss.length ≤ 100) :
    Calls Tryz.prog 98 #[.pointer (some ⟨pb, 0, none⟩), .func (.func f) #[.pointer (some ⟨pb, 0, none⟩)] #[], .slice (some ⟨sg, 0, none⟩) ss.length ss.length] w fun e w' => e = .returned (.int .i64 r) ∧ ∃ par' ws' ns', G' w' par' ws' ns' ∧ Me pb base w par w' par' := by
  have HP := Lib.hid hpart
  have HS := Lib.hid hs
  have HT : Hid (∀ w1 p1 ws1 ns1, G w1 p1 ws1 ns1 → Sgn w1 pb p1 sg ss → Calls Tryz.prog 94 #[.pointer (some ⟨pb, 0, none⟩), .slice (some ⟨sg, 0, none⟩) ss.length ss.length] w1 fun e w' => e = .returned (.bool false) ∧ ∃ p2 ws2, G' w' p2 ws2 ns1 ∧ Me pb base w1 p1 w' p2) := fun w1 p1 ws1 ns1 h1 h2 => by
    obtain ⟨hx, hl⟩ := hG w1 p1 ws1 ns1 h1
    refine (takesOne_no hx hk hp hq hno h2 (by omega) hl2).mono ?_
    rintro e w' ⟨rfl, wv, x, y⟩
    exact ⟨rfl, _, _, hG2 _ _ _ _ _ _ h1 x y, y⟩
  have he' : ∀ (args : Array Value) (w : World), (callFunc f args).run Tryz.prog w = .ok (.enter f args) w := he
  clear hpart hG hG2 hs hno
  go_enter Tryz.func98, Tryz.ntmps98
  go_wp2_with fail
  refine HP.out.mono ?_
  rintro e w1 ⟨rfl, p1, ws1, ns1, g1, m1⟩
  have HG1 := Lib.hid g1
  have HM1 := Lib.hid m1
  clear g1 m1 HP
  go_wp2_with fail
  go_loopw [7] (fun a wr => a = .int .i64 r ∧ wr = w1) (fun _ _ => 0)
  case atStart => exact ⟨rfl, rfl⟩
  case round =>
    obtain ⟨rfl, rfl⟩ := hrel
    go_wp2_with fail
    refine (HT.out _ _ _ _ HG1.out (HS.out.me HM1.out)).mono ?_
    rintro e w2 ⟨rfl, p2, ws2, g2, m2⟩
    have HG2 := Lib.hid g2
    have HM2 := Lib.hid m2
    clear g2 m2
    go_wp2_with fail
    go_ret
    exact ⟨rfl, p2, ws2, ns1, HG2.out, HM1.out.trans HM2.out⟩
end Go.Proofs.YtmkibolkcjallaaGreatDoor
