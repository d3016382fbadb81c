/- takesOne. Own work. -/
import Derived.Test.YtmkibolkcjallaaGreatDoorSyEx
namespace Go.Proofs.YtmkibolkcjallaaGreatDoor
open Go.RowKit Sc
/-- signs in a block of their own, apart from what the parser writes -/
structure Sgn (w : World) (pb : Nat) (par : Par) (sg : Nat) (ss : List ByteArray) : Prop where
  cell : ∀ i (h : i < ss.length), w.cell? ⟨sg, i, none⟩ = some (.string ss[i])
  pb_ : sg ≠ pb
  words : par.words.ownBlock ≠ some sg
  items : par.items.ownBlock ≠ some sg
  lt : sg < w.heap.size
theorem Sgn.me {w w' : World} {pb base : Nat} {par par' : Par} {sg : Nat} {ss : List ByteArray} (h : Sgn w pb par sg ss) (m : Me pb base w par w' par') : Sgn w' pb par' sg ss :=
  ⟨fun i hi => m.cell (h.cell i hi) h.pb_ h.words h.items, h.pb_, (m.stay sg h.lt h.pb_ h.words h.items).2.1, (m.stay sg h.lt h.pb_ h.words h.items).2.2, Nat.lt_of_lt_of_le h.lt m.keeps.size⟩
set_option maxRecDepth 100000 in
set_option maxHeartbeats 4000000 in
theorem takesOne_no {w : World} {pb base b o cap g lc sg : Nat} {zs : List Nat} {ts : List Tok} {k : Nat} {par : Par} {ws ss : List ByteArray} {ns : List Nd} (h : Ex w pb base b o cap g lc zs ts k par ws ns) (hk : k < ts.length) (hp : ts[k].at_ < ts[k].end_) (hq : ts[k].end_ ≤ zs.length) (hno : ∀ t ∈ ss, mkS (lexB zs ts[k]) ≠ t) (hs : Sgn w pb par sg ss) (hl : ws.length ≤ 500) (hl2 : ss.length ≤ 100) :
    Calls Tryz.prog 94 #[.pointer (some ⟨pb, 0, none⟩), .slice (some ⟨sg, 0, none⟩) ss.length ss.length] w fun e w' => e = .returned (.bool false) ∧ ∃ wv, Ex w' pb base b o cap g lc zs ts k { par with words := wv } (ws ++ ss) ns ∧ Me pb base w par w' { par with words := wv } := by
  have HX := Lib.hid h
  have HS := Lib.hid hs
  have HNo : Hid (∀ t ∈ ss, mkS (lexB zs ts[k]) ≠ t) := hno
  clear h hs hno
  obtain ⟨n, hn⟩ : ∃ n, ss.length = n := ⟨_, rfl⟩
  rw [hn]
  go_enter Tryz.func94, Tryz.ntmps94
  go_wp2_with fail
  go_loopw [9] (fun i wr => ∃ (j : Nat) (wv : Value), j ≤ n ∧ i = .int .i64 (j : Int) ∧ Hid (Ex wr pb base b o cap g lc zs ts k { par with words := wv } (ws ++ ss.take j) ns) ∧ Hid (Me pb base w par wr { par with words := wv })) (fun i _ => n - (intOf i).toNat)
  case atStart => exact ⟨0, par.words, by omega, rfl, by rw [List.take_zero, List.append_nil]; exact HX.out, Me.refl _ _ _ _⟩
  case round =>
    obtain ⟨j, wv, hj, rfl, H1, HM1⟩ := hrel
    by_cases hjn : j < n
    · have d1 : decide ((j : Int) < (n : Int)) = true := decide_eq_true (by omega)
      have hj' : j < ss.length := by omega
      have c1 := (HS.out.me HM1.out).cell j hj'
      have HC : Hid (Calls Tryz.prog 27 #[.pointer (some ⟨pb, 0, none⟩), .string ss[j]] wr fun e w' => e = .returned (.bool false) ∧ ∃ wv', Ex w' pb base b o cap g lc zs ts k { par with words := wv' } (ws ++ ss.take (j + 1)) ns ∧ Me pb base w par w' { par with words := wv' }) := by
        refine (takes_noE ss[j] H1.out hk hp hq (HNo.out _ (List.getElem_mem hj')) (by rw [List.length_append, List.length_take]; omega)).mono ?_
        rintro e w' ⟨rfl, wv', x, y⟩
        refine ⟨rfl, wv', ?_, HM1.out.trans y⟩
        rw [List.take_add_one, List.getElem?_eq_getElem hj', ← List.append_assoc]
        exact x
      generalize ss[j] = sj at c1 HC
      have ji : (j : Int) < (n : Int) := by omega
      have hw1 : IntKind.i64.wrap ((j : Int) + 1) = ((j + 1 : Nat) : Int) := by rw [IntKind.wrap_i64]; omega
      go_wp2_with fail
      refine HC.out.mono ?_
      rintro e w2 ⟨rfl, wv2, x2, y2⟩
      have H2 := Lib.hid x2
      have HM2 := Lib.hid y2
      clear x2 y2 c1
      go_wp2_with fail
      go_roundw
      case rel => exact ⟨j + 1, wv2, by omega, rfl, H2, HM2⟩
      case measure => simp [intOf]; omega
    · have d1 : decide ((j : Int) < (n : Int)) = false := decide_eq_false (by omega)
      obtain rfl : j = n := by omega
      go_wp2_with fail
      go_ret
      rw [← hn, List.take_length] at H1
      exact ⟨rfl, wv, H1.out, HM1.out⟩
set_option maxRecDepth 100000 in
set_option maxHeartbeats 4000000 in
theorem takesOne_yes {w : World} {pb base b o cap g lc sg : Nat} {zs : List Nat} {ts : List Tok} {k : Nat} {par : Par} {ws ss : List ByteArray} {s0 : ByteArray} {ns : List Nd} (h : Ex w pb base b o cap g lc zs ts k par ws ns) (hk : k < ts.length) (hp : ts[k].at_ < ts[k].end_) (hq : ts[k].end_ ≤ zs.length) (hzt : mkS (lexB zs ts[k]) = s0) (hs : Sgn w pb par sg (s0 :: ss)) (hl : ws.length ≤ 500) (ho : 0 ≤ par.open_ ∧ par.open_ ≤ 1000) (ho2 : openN (ts[k].kind : Int) par.open_ ≤ 32) :
    Calls Tryz.prog 94 #[.pointer (some ⟨pb, 0, none⟩), .slice (some ⟨sg, 0, none⟩) (ss.length + 1) (ss.length + 1)] w fun e w' => e = .returned (.bool true) ∧ ∃ v wv, Ex w' pb base b o cap g lc zs ts (k + 1) (par.past ts[k] v wv) [] ns ∧ Me pb base w par w' (par.past ts[k] v wv) := by
  have c1 := hs.cell 0 (by simp)
  have HC := Lib.hid (takes_yesE s0 h hk hp hq hzt ho ho2 (by omega))
  have HNe : Hid True := trivial
  simp only [List.getElem_cons_zero] at c1
  clear h hs hzt ho ho2
  obtain ⟨n, hn⟩ : ∃ n, ss.length + 1 = n := ⟨_, rfl⟩
  rw [hn]
  have d1 : decide ((0 : Int) < (n : Int)) = true := decide_eq_true (by omega)
  have ji : (0 : Int) < (n : Int) := by omega
  clear hn
  go_enter Tryz.func94, Tryz.ntmps94
  go_wp2_with fail
  go_loopw [9] (fun i wr => i = .int .i64 0 ∧ wr = w) (fun _ _ => 0)
  case atStart => exact ⟨rfl, rfl⟩
  case round =>
    obtain ⟨rfl, rfl⟩ := hrel
    go_wp2_with fail
    refine HC.out.mono ?_
    rintro e w2 ⟨rfl, v2, wv2, x2, y2⟩
    have H2 := Lib.hid x2
    have HM2 := Lib.hid y2
    clear x2 y2 c1 HC
    go_wp2_with fail
    go_ret
    exact ⟨rfl, v2, wv2, H2.out, HM2.out⟩
end Go.Proofs.YtmkibolkcjallaaGreatDoor
