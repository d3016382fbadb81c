/- the law's helpers: Within, wide, inside, all, Same. Own work. -/
import Derived.Test.YtacmdalgdbfehaaBGround
namespace Go.Proofs.Ytacmdalgdbfehaa
open Go.RowKit Go.Maps Go.Proofs.Ytacmdalgdbfehaa.Sp
set_option maxRecDepth 100000 in
set_option maxHeartbeats 4000000 in
theorem all_any {w : World} {m B : Nat} {V : Value × Value × Value} {T : Nat → Option Nat} {M : Nat → Nat} {L S X : Nat} (h : Mac w m B V T M rsG dsG L S X) (hX : X ≤ 4611686018427387904) :
    Calls Try.prog 19 #[.pointer (some ⟨m, 0, none⟩)] w fun e w' => ∃ g, e = .returned (.slice (some ⟨g, 0, none⟩) 16384 16384) ∧ Hid (RowT w' 5 g (bytesAt M 8192 16384)) ∧ Hid (w.heap.size ≤ g) ∧ Hid (Mac w' m B V T M rsG dsG L S X) ∧ Hid (Keeps (fun j => j = m) w w') := by
  have HR : Hid (∀ W, Below w.heap.size w W → Calls Try.prog 34 #[.pointer (some ⟨m, 0, none⟩), .int .u64 8192, .int .i64 16384] W fun e w' => ∃ g, e = .returned (.tuple #[.slice (some ⟨g, 0, none⟩) 16384 16384, .agg #[.int .i64 0, .int .u64 0]]) ∧ Hid (RowT w' 5 g (bytesAt M 8192 16384)) ∧ Hid (W.heap.size ≤ g) ∧ Hid (Mac w' m B V T M rsG dsG L S X) ∧ Hid (Keeps (fun j => j = m) W w')) := fun W hW => by
    refine (read_ok (a := 8192) (n := 16384) (h.below hW) (by omega) (by omega) hX (fun i hi => (on_g _).2 (by omega))).mono ?_
    rintro e w' ⟨g, rfl, h1, h2, h3, h4⟩
    exact ⟨g, rfl, h1, h2, h3, h4⟩
  have HM : Hid (Mac w m B V T M rsG dsG L S X) := h
  clear h
  go_enter Try.func19, Try.ntmps19
  go_wp2_with fail
  refine (HR.out _ (Below.refl _ _)).mono ?_
  rintro e w1 ⟨g, rfl, H1, H2, H3, H4⟩
  clear HR
  go_wp2_with fail
  go_ret
  have hb := (Below.refl w1.heap.size w1).alloc (Nat.le_refl _) (Obj.cells #[.int .i64 0, .int .u64 0] 42)
  exact ⟨g, rfl, (hb.block g (Array.getElem?_eq_some_iff.1 H1.out).1).trans H1.out, H2.out, H3.out.below hb, H4.out.trans (Keeps.of_below (S := fun _ => False) hb) (fun _ _ h => h.elim)⟩
set_option maxRecDepth 100000 in
set_option maxHeartbeats 4000000 in
theorem bookSame_yes {w : World} {a b : Nat} {L : List Nat} {n : Nat} (ha : RowT w 5 a L) (hb : RowT w 5 b L) (hn : L.length = n) (hm : n ≤ maxLen) :
    Calls Try.prog 18 #[.slice (some ⟨a, 0, none⟩) n n, .slice (some ⟨b, 0, none⟩) n n] w fun e w' => e = .returned (.bool true) ∧ Below w.heap.size w w' := by
  have HA : Hid (∀ W, Below w.heap.size w W → ∀ i, i < n → W.cell? ⟨a, i, none⟩ = some (.int .u8 ((L.getD i 0 : Nat) : Int))) := fun W hW i hi => by rw [cell_of_row W a i _ _ _ ((hW.block a (Array.getElem?_eq_some_iff.1 ha).1).trans ha), List.getElem?_toArray, bvs_get _ _ (by omega)]
  have HB : Hid (∀ W, Below w.heap.size w W → ∀ i, i < n → W.cell? ⟨b, i, none⟩ = some (.int .u8 ((L.getD i 0 : Nat) : Int))) := fun W hW i hi => by rw [cell_of_row W b i _ _ _ ((hW.block b (Array.getElem?_eq_some_iff.1 hb).1).trans hb), List.getElem?_toArray, bvs_get _ _ (by omega)]
  have hbig : n ≤ 9223372036854775807 := by unfold maxLen at hm; omega
  clear ha hb hn hm
  go_enter Try.func18, Try.ntmps18
  go_wp2_with fail
  go_loopw [5] (fun x wr => ∃ (i : Nat), i ≤ n ∧ x = .int .i64 (i : Int) ∧ Hid (Below w.heap.size w wr)) (fun x _ => match x with | .int _ z => n - z.toNat | _ => 0)
  case atStart => exact ⟨0, by omega, rfl, Below.refl _ _⟩
  case round =>
    obtain ⟨i, hi, rfl, HK⟩ := hrel
    by_cases hlt : i < n
    · have h1 := HA.out wr HK.out i hlt
      have h2 := HB.out wr HK.out i hlt
      generalize L.getD i 0 = z at h1 h2
      go_wp2_with fail
      go_region
      go_wp2_with fail
      go_roundw
      case rel => exact ⟨i + 1, by omega, by go_num, HK.out.drew⟩
      case measure => simp; omega
    · obtain rfl : i = n := by omega
      go_wp2_with fail
      go_ret
      exact ⟨rfl, HK.out⟩
end Go.Proofs.Ytacmdalgdbfehaa
