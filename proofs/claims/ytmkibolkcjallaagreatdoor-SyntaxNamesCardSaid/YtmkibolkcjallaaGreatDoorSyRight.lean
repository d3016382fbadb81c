/- Syntax: right. -/
import Derived.Test.YtmkibolkcjallaaGreatDoorSyAhead
namespace Go.Proofs.YtmkibolkcjallaaGreatDoor
open Go.RowKit
theorem OwnS.get {w : World} {base n c : Nat} {a : Option Addr} {ss : List ByteArray} (h : OwnS w base (.slice a n c) ss) {k : Nat} (hk : k < ss.length) : ∃ gw, a = some ⟨gw, 0, none⟩ ∧ w.cell? ⟨gw, k, none⟩ = some (.string (ss.getD k ⟨#[]⟩)) := by
  rcases h.2 with ⟨_, h0⟩ | ⟨g, cap, cur, hv, hb, hgg, h1, h2, h3, h4⟩
  · omega
  · simp only [Value.slice.injEq] at hv
    obtain ⟨rfl, _, rfl⟩ := hv
    refine ⟨g, rfl, ?_⟩
    rw [cell_of_row w g k _ _ _ hgg]
    have e : (cur.toList.take (ss.length * 1))[k]? = (ss.map Value.string)[k]? := by rw [h4]
    rw [List.getElem?_take_of_lt (by omega), List.getElem?_map, List.getElem?_eq_getElem hk, Array.getElem?_toList] at e
    rw [e, List.getD_eq_getElem?_getD, List.getElem?_eq_getElem hk]
    rfl
def rightN (ws : List ByteArray) (zs : List Nat) : Nat := ws.foldl (fun m s => max m (Sy.sharedN (sb s) zs)) 0
theorem rightN_succ (ws : List ByteArray) (zs : List Nat) {k : Nat} (hk : k < ws.length) : rightN (ws.take (k + 1)) zs = max (rightN (ws.take k) zs) (Sy.sharedN (sb (ws.getD k ⟨#[]⟩)) zs) := by
  unfold rightN
  rw [List.take_succ_eq_append_getElem hk, List.foldl_append, List.getD_eq_getElem?_getD, List.getElem?_eq_getElem hk]
  rfl
theorem sharedN_le (a zs : List Nat) : Sy.sharedN a zs ≤ zs.length := by
  induction a generalizing zs with
  | nil => simp [Sy.sharedN]
  | cons x l ih =>
    cases zs with
    | nil => simp [Sy.sharedN]
    | cons y m =>
      rw [Sy.sharedN]
      split
      · have := ih m; simp; omega
      · simp
theorem rightN_le (ws : List ByteArray) (zs : List Nat) : rightN ws zs ≤ zs.length := by
  unfold rightN
  suffices h : ∀ (l : List ByteArray) (a : Nat), a ≤ zs.length → l.foldl (fun m s => max m (Sy.sharedN (sb s) zs)) a ≤ zs.length from h _ _ (Nat.zero_le _)
  intro l
  induction l with
  | nil => intro a h; exact h
  | cons x l ih => intro a h; exact ih _ (Nat.max_le.2 ⟨h, sharedN_le _ _⟩)
set_option maxRecDepth 100000 in
set_option maxHeartbeats 2000000 in
theorem right_words {w : World} {pb base b o cap n g off m lc p q : Nat} {par : Par} {ws : List ByteArray} {zs : List Nat} (hp : ParB w pb par) (hx : NextAt w par b o cap n g off m lc p q) (hsl : Sl w (.slice (some ⟨b, o + p, none⟩) (q - p) (cap - p)) zs) (hw : OwnS w base par.words ws) (hwb : ∀ s ∈ ws, s.size ≤ 1048576) (hzl : zs.length ≤ 1048576) (hwl : ws.length ≤ 1000) (hnm : par.naming = false) :
    Calls Tryz.prog 45 #[.pointer (some ⟨pb, 0, none⟩)] w fun e w' => e = .returned (.int .i64 (rightN ws zs : Nat)) ∧ Below w.heap.size w w' := by
  obtain ⟨wa, wc, hwv⟩ := hw.form
  have hh : w.heap[pb]? = _ := hp
  have d10 : w.cell? ⟨pb, 10, none⟩ = some (.bool false) := by rw [← hnm]; exact hp.cell 10 rfl
  have d9 : w.cell? ⟨pb, 9, none⟩ = some (.slice wa ws.length wc) := by rw [← hwv]; exact hp.cell 9 rfl
  have HP : Hid (ParB w pb par) := hp
  have HX : Hid (NextAt w par b o cap n g off m lc p q ∧ Sl w (.slice (some ⟨b, o + p, none⟩) (q - p) (cap - p)) zs) := ⟨hx, hsl⟩
  have HW : Hid (OwnS w base (.slice wa ws.length wc) ws) := by rw [← hwv]; exact hw
  clear hp hx hsl hw hnm hwv
  go_enter Tryz.func45, Tryz.ntmps45
  go_wp2_with fail
  have HWl : Hid (ws.length ≤ 1000) := hwl
  have HZ : Hid ((∀ s ∈ ws, s.size ≤ 1048576) ∧ zs.length ≤ 1048576) := ⟨hwb, hzl⟩
  clear hwb hzl hwl
  go_loopw [3, 28] (fun mv iv wr => ∃ k : Nat, k ≤ ws.length ∧ iv = .int .i64 (k : Int) ∧ mv = .int .i64 (rightN (ws.take k) zs : Nat) ∧ Hid (Below w.heap.size w wr)) (fun _ iv _ => ws.length - (intOf iv).toNat)
  case atStart => exact ⟨0, Nat.zero_le _, rfl, rfl, Below.refl _ _⟩
  case round =>
    obtain ⟨k, hk, rfl, rfl, HB⟩ := hrel
    have HM : Hid (rightN (ws.take k) zs ≤ 1048576) := Nat.le_trans (rightN_le _ _) HZ.out.2
    by_cases hlt : k < ws.length
    · obtain ⟨gw, rfl, hc⟩ := HW.out.get hlt
      have HKb : Hid (Keeps (fun _ => False) w wr) := Keeps.of_below HB.out
      have hc' := cell_keeps (S := fun _ => False) hc HKb.out id
      have i1 : (k : Int) < (ws.length : Int) := by omega
      have i0 : (0 : Int) ≤ (k : Int) := by omega
      have HX1 : Hid (NextAt wr par b o cap n g off m lc p q ∧ Sl wr (.slice (some ⟨b, o + p, none⟩) (q - p) (cap - p)) zs) := by
        obtain ⟨hx, hs⟩ := HX.out
        exact ⟨⟨hx.src, hx.list, hx.some_, hx.pq, hx.qn, hx.nc, cell_keeps (S := fun _ => False) hx.at_ HKb.out id, cell_keeps (S := fun _ => False) hx.end_ HKb.out id⟩, hs.below HB.out⟩
      have HS1 : Hid (rightN (ws.take (k + 1)) zs = max (rightN (ws.take k) zs) (Sy.sharedN (sb (ws.getD k ⟨#[]⟩)) zs)) := rightN_succ ws zs hlt
      have HW1 : Hid ((ws.getD k ⟨#[]⟩).size ≤ 1048576) := HZ.out.1 _ (by rw [List.getD_eq_getElem?_getD, List.getElem?_eq_getElem hlt]; exact List.getElem_mem hlt)
      clear hc hh d9 d10
      obtain ⟨s, hse⟩ : ∃ s, ws.getD k ⟨#[]⟩ = s := ⟨_, rfl⟩
      rw [hse] at hc' HS1 HW1
      clear hse
      go_wp2_with fail
      refine (spelling_any (HP.out.below HB.out) HX1.out.1).mono ?_
      rintro e w5 ⟨rfl, k5, rfl⟩
      go_wp2_with fail
      refine (shared_any s (HX1.out.2.below (bdn (Below.refl _ _) k5)) HZ.out.2 HW1.out).mono ?_
      rintro e w6 ⟨rfl, hb6⟩
      have HB6 := Lib.hid (HB.out.trans ((bdn (Below.refl _ _) k5).trans (hb6.mono (Nat.le_trans HB.out.size (bdn (Below.refl 0 wr) k5).size))))
      clear hb6
      go_wp2_with fail
      have hw : wrap64 ((k : Int) + 1) = ((k + 1 : Nat) : Int) := by have := HWl.out; unfold wrap64; omega
      rw [hw]
      refine ⟨⟨k + 1, by omega, rfl, ?_, HB6⟩, by simp only [intOf, Int.toNat_natCast]; omega⟩
      rw [HS1.out]
      congr 1
      split <;> omega
    · have hke : k = ws.length := by omega
      subst hke
      have e : ws.take ws.length = ws := List.take_length
      rw [e]
      go_wp2_with fail
      go_ret
      exact ⟨rfl, HB.out⟩
end Go.Proofs.YtmkibolkcjallaaGreatDoor
