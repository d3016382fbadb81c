/- The document's own check sum, bit by bit: it answers Pl.more. -/
import Derived.Test.YtceljnkbkpgdjaaDoorBook
import Derived.Test.YtceljnkbkpgdjaaDoorBitwise
namespace Go.Proofs.YtceljnkbkpgdjaaDoor
open Go.RowKit
theorem and1 (x : Nat) (h : x < 4294967296) : bits .and .u32 (x : Int) 1 = ((x % 2 : Nat) : Int) := by
  have := u32_and_nat x 1 h (by decide)
  rw [nat_mask1] at this
  exact this
theorem turn32 (r : Nat) (h : r < 4294967296) : bits .xor .u32 (r : Int) 4294967295 = ((4294967295 ^^^ r : Nat) : Int) := by
  rw [Nat.xor_comm]
  exact u32_xor_nat r 4294967295 h (by decide)
theorem poly32 (r : Nat) (h : r < 4294967296) : bits .xor .u32 (r : Int) 2197175160 = ((r ^^^ 2197175160 : Nat) : Int) :=
  u32_xor_nat r 2197175160 h (by decide)
set_option maxRecDepth 100000 in
set_option maxHeartbeats 1000000 in
theorem refmore_some (s : Nat) (b o cap : Nat) (zs : List Nat) (w : World) (hs : s < 4294967296) (hz : ∀ z ∈ zs, z < 256) (hc : zs.length ≤ cap) (hm : cap ≤ maxLen)
    (hcell : ∀ i, i < zs.length → w.cell? ⟨b, o + i, none⟩ = some (.int .u8 (zs.getD i 0 : Nat))) :
    Calls Tryd.prog 87 #[.int .u32 s, .slice (some ⟨b, o, none⟩) zs.length cap] w fun e w' => e = .returned (.int .u32 (Pl.more s zs : Nat)) ∧ w' = w := by
  unfold maxLen at hm
  have hn := turn32 s hs
  obtain ⟨r0, hr0⟩ : ∃ r0, 4294967295 ^^^ s = r0 := ⟨_, rfl⟩
  rw [hr0] at hn
  have hr0lt : r0 < 4294967296 := by rw [← hr0]; exact Pl.xor_lt (by decide) hs
  have HR : Hid (4294967295 ^^^ s = r0) := hr0
  have HC : Hid (∀ i, i < zs.length → w.cell? ⟨b, o + i, none⟩ = some (.int .u8 (zs.getD i 0 : Nat))) := hcell
  have HZ : Hid (∀ z ∈ zs, z < 256) := hz
  clear hr0 hcell hz
  go_enter Tryd.func87, Tryd.ntmps87
  go_wp2
  go_loop [5, 6, 7, 8] (fun r i _ _ => ∃ k : Nat, k ≤ zs.length ∧ i = .int .i64 k ∧ r = .int .u32 (((zs.take k).foldl Pl.stepB r0 : Nat) : Int)) (fun _ i _ _ => zs.length - (intOf i).toNat)
  case atStart => exact ⟨0, Nat.zero_le _, rfl, rfl⟩
  case round =>
    obtain ⟨k, hk, rfl, rfl⟩ := hrel
    have hlt0 := Pl.fold_lt (zs.take k) r0 hr0lt (fun z hz => HZ.out z (List.mem_of_mem_take hz))
    by_cases hlt : k < zs.length
    · have hsn := Pl.fold_snoc zs k r0 hlt
      have hzk := Pl.mem_getD (k := k) HZ.out
      have hck := HC.out k hlt
      generalize hg : (zs.take k).foldl Pl.stepB r0 = r at *
      generalize hg2 : zs.getD k 0 = z at *
      rw [Pl.step_eight] at hsn
      have hx0 := u32_xor_nat r z hlt0 (by omega)
      obtain ⟨x, hx⟩ : ∃ x, r ^^^ z = x := ⟨_, rfl⟩
      have hxl : x < 4294967296 := by rw [← hx]; exact Pl.xor_lt hlt0 (by omega)
      rw [hx] at hx0 hsn
      have HS : Hid ((zs.take (k + 1)).foldl Pl.stepB r0 = Pl.bsteps 8 x) := hsn
      clear hx hsn hg hg2
      go_wp2
      go_loop [5, 7, 8] (fun r j _ => ∃ m : Nat, m ≤ 8 ∧ j = .int .i64 m ∧ r = .int .u32 ((Pl.bsteps m x : Nat) : Int)) (fun _ j _ => 8 - (intOf j).toNat)
      case atStart => exact ⟨0, by omega, rfl, rfl⟩
      case round =>
        obtain ⟨m, hm8, rfl, rfl⟩ := hrel
        have hy := Pl.bsteps_lt m hxl
        by_cases hm : m < 8
        · have hb : Pl.bsteps (m + 1) x = Pl.bst (Pl.bsteps m x) := rfl
          have HBS : Hid (Pl.bsteps (m + 1) x = Pl.bst (Pl.bsteps m x)) := hb
          clear hb
          generalize hgy : Pl.bsteps m x = y at *
          clear hgy
          have ha := and1 y hy
          have hp := poly32 (y / 2) (by omega)
          have hd : (y : Int) / 2 = ((y / 2 : Nat) : Int) := by omega
          by_cases hodd : y % 2 = 1
          · have HO : Hid (Pl.bst y = (y / 2) ^^^ 2197175160) := by show Pl.bst y = _; unfold Pl.bst; rw [if_pos hodd]
            rw [hodd] at ha
            clear hodd
            generalize y / 2 ^^^ 2197175160 = u at *
            generalize y / 2 = h at *
            go_wp2
            go_round
            case rel => exact ⟨m + 1, by omega, by go_num, by rw [HBS.out, HO.out]⟩
            case measure => simp [intOf]; omega
          · have h0 : y % 2 = 0 := by omega
            have HO : Hid (Pl.bst y = y / 2) := by show Pl.bst y = _; unfold Pl.bst; rw [if_neg hodd]
            rw [h0] at ha
            clear hodd hp h0
            generalize y / 2 = h at *
            go_wp2
            go_round
            case rel => exact ⟨m + 1, by omega, by go_num, by rw [HBS.out, HO.out]⟩
            case measure => simp [intOf]; omega
        · have HE : Hid (m = 8) := (by omega : m = 8)
          go_wp2
          go_round
          case rel => exact ⟨k + 1, by omega, by go_num, by rw [HS.out, HE.out]⟩
          case measure => simp [intOf]; omega
    · obtain rfl : k = zs.length := by omega
      have hn2 := turn32 _ hlt0
      rw [List.take_length] at hn2 hlt0 ⊢
      have HF : Hid (Pl.more s zs = 4294967295 ^^^ zs.foldl Pl.stepB r0) := by rw [← HR.out]; rfl
      generalize zs.foldl Pl.stepB r0 = r at *
      generalize 4294967295 ^^^ r = y at *
      go_wp2
      go_ret
      exact ⟨by rw [HF.out]; rfl, rfl⟩
set_option maxHeartbeats 1000000 in
theorem refmore_none (s : Nat) (ao : Option Addr) (cap : Nat) (w : World) (hs : s < 4294967296) :
    Calls Tryd.prog 87 #[.int .u32 s, .slice ao 0 cap] w fun e w' => e = .returned (.int .u32 (Pl.more s [] : Nat)) ∧ w' = w := by
  have hn := turn32 s hs
  obtain ⟨r0, hr0⟩ : ∃ r0, 4294967295 ^^^ s = r0 := ⟨_, rfl⟩
  rw [hr0] at hn
  have hr0lt : r0 < 4294967296 := by rw [← hr0]; exact Pl.xor_lt (by decide) hs
  have HF : Hid (Pl.more s [] = 4294967295 ^^^ r0) := by rw [← hr0]; rfl
  have hn2 := turn32 r0 hr0lt
  generalize 4294967295 ^^^ r0 = y at *
  clear hr0
  go_enter Tryd.func87, Tryd.ntmps87
  go_wp2
  go_loop [5, 6, 7, 8] (fun r i _ _ => i = .int .i64 0 ∧ r = .int .u32 (r0 : Nat)) (fun _ _ _ _ => 0)
  case atStart => exact ⟨rfl, rfl⟩
  case round =>
    obtain ⟨rfl, rfl⟩ := hrel
    go_wp2
    go_ret
    exact ⟨by rw [HF.out]; rfl, rfl⟩
theorem refmore_any {s : Nat} {v : Value} {zs : List Nat} {w : World} (hs : s < 4294967296) (hv : Sl w v zs) :
    Calls Tryd.prog 87 #[.int .u32 s, v] w fun e w' => e = .returned (.int .u32 (Pl.more s zs : Nat)) ∧ w' = w := by
  by_cases hp : 0 < zs.length
  · obtain ⟨b, o, cap, rfl, h1, h2, h3, h4⟩ := hv.pos hp
    exact refmore_some s b o cap zs w hs h3 h1 h2 h4
  · obtain rfl : zs = [] := List.eq_nil_of_length_eq_zero (by omega)
    obtain ⟨ao, cap, rfl, h1, h2, h3, h4, h5⟩ := hv
    exact refmore_none s ao cap w hs
set_option maxHeartbeats 400000 in
theorem refcrc_any {v : Value} {zs : List Nat} {w : World} (hv : Sl w v zs) :
    Calls Tryd.prog 69 #[v] w fun e w' => e = .returned (.int .u32 (Pl.crc zs : Nat)) ∧ w' = w := by
  have c := refmore_any (s := 0) (by decide) hv
  have HC : Hid (Calls Tryd.prog 87 #[.int .u32 ((0 : Nat) : Int), v] w fun e w' => e = .returned (.int .u32 (Pl.more 0 zs : Nat)) ∧ w' = w) := c
  clear c
  obtain ⟨ao, cap, rfl, _⟩ := hv
  go_enter Tryd.func69, Tryd.ntmps69
  go_wp2_with fail
  refine (show Calls Tryd.prog 87 #[.int .u32 0, .slice ao zs.length cap] w fun e w' => e = .returned (.int .u32 (Pl.more 0 zs : Nat)) ∧ w' = w from HC.out).mono ?_
  rintro e w' ⟨rfl, rfl⟩
  go_wp2
  go_ret
  exact ⟨rfl, rfl⟩
end Go.Proofs.YtceljnkbkpgdjaaDoor
