/- layWithin: bytes laid into one page. Own work. -/
import Derived.Test.YtehedllcdpjebaaBPages
namespace Go.Proofs.Ytehedllcdpjebaa
open Go.RowKit Go.Maps
/-- a page that lies at g is written: what is held behind it -/
theorem Held.wrote {w w' : World} {B : Nat} {T : Nat → Option Nat} {M : Nat → Nat} {k o g : Nat} {zs : List Nat} (h : Held w B T M) (hk : T k = some g) (hz : ∀ z ∈ zs, z < 256) (hl : o + zs.length ≤ 4096)
    (hg : Pg w' g ((pageOf M k).take o ++ zs ++ (pageOf M k).drop (o + zs.length))) (hK : Keeps (fun j => j = g) w w') (hn : ¬ isZ (putAt M (k * 4096 + o) zs) k) : Held w' B T (putAt M (k * 4096 + o) zs) := by
  obtain ⟨p1, p2, p3, p4, p5⟩ := h.2
  have hz1 : nz M k = true := nz_true (p1 k g hk).2
  have hz2 : nz (putAt M (k * 4096 + o) zs) k = true := nz_true hn
  have hc : cnt (putAt M (k * 4096 + o) zs) = cnt M := by
    have := cnt_one (M := M) (M' := putAt M (k * 4096 + o) zs) (h.low hk) (fun j hj => by unfold nz; rw [page_put_other M hl hj])
    rw [hz1, hz2] at this
    omega
  refine ⟨by rw [hc]; exact h.1.keeps hK (fun e => h.apart hk e.symm), fun k' g' e => ?_, fun k' e => ?_, p3, putAt_small p4 hz, p5⟩
  · by_cases hk' : k' = k
    · subst hk'
      rw [hk] at e
      cases e
      rw [page_put_same M k' o zs hl] at hg
      exact ⟨hg, hn⟩
    · rw [page_put_other M hl hk']
      refine ⟨((p1 k' g' e).1).keeps hK (fun e' => hk' (p3 k' k g' e (by rw [hk, e']))), fun hz' => (p1 k' g' e).2 (isZ_congr (fun i hi => (put_other M hl hk' i hi).symm) hz')⟩
  · exact isZ_congr (put_other M hl (fun e' => by rw [e', hk] at e; cases e)) (p2 k' e)
/-- a new page is put in -/
theorem Held.fresh {w w' : World} {B : Nat} {T : Nat → Option Nat} {M : Nat → Nat} {k o g : Nat} {zs : List Nat} (h : Held w B T M) (hk : T k = none) (hkn : k < pagesN) (hz : ∀ z ∈ zs, z < 256) (hl : o + zs.length ≤ 4096) (hgn : w.heap.size ≤ g)
    (hm : MapT w' B (upd T k (some g)) (cnt M + 1)) (hg : Pg w' g ((pageOf M k).take o ++ zs ++ (pageOf M k).drop (o + zs.length))) (hK : Keeps (fun j => j = B) w w') (hn : ¬ isZ (putAt M (k * 4096 + o) zs) k) : Held w' B (upd T k (some g)) (putAt M (k * 4096 + o) zs) := by
  obtain ⟨p1, p2, p3, p4, p5⟩ := h.2
  have hz1 : nz M k = false := nz_false.2 (p2 k hk)
  have hz2 : nz (putAt M (k * 4096 + o) zs) k = true := nz_true hn
  have hc : cnt (putAt M (k * 4096 + o) zs) = cnt M + 1 := by
    have := cnt_one (M := M) (M' := putAt M (k * 4096 + o) zs) hkn (fun j hj => by unfold nz; rw [page_put_other M hl hj])
    rw [hz1, hz2] at this
    simpa using this
  have hnew : ∀ k' g', T k' = some g' → g' ≠ g := fun k' g' e e' => by
    have := ((p1 k' g' e).1).lt
    omega
  refine ⟨by rw [hc]; exact hm, fun k' g' e => ?_, fun k' e => ?_, fun k1 k2 g' e1 e2 => ?_, putAt_small p4 hz, fun k' hk' => ?_⟩
  · by_cases hk' : k' = k
    · subst hk'
      rw [upd_same] at e
      cases e
      rw [page_put_same M k' o zs hl] at hg
      exact ⟨hg, hn⟩
    · rw [upd_other _ _ hk'] at e
      rw [page_put_other M hl hk']
      exact ⟨((p1 k' g' e).1).keeps hK (h.apart e), fun hz' => (p1 k' g' e).2 (isZ_congr (fun i hi => (put_other M hl hk' i hi).symm) hz')⟩
  · by_cases hk' : k' = k
    · subst hk'
      rw [upd_same] at e
      cases e
    · rw [upd_other _ _ hk'] at e
      exact isZ_congr (put_other M hl hk') (p2 k' e)
  · by_cases h1 : k1 = k
    · by_cases h2 : k2 = k
      · rw [h1, h2]
      · subst h1
        rw [upd_same] at e1
        rw [upd_other _ _ h2] at e2
        cases e1
        exact absurd rfl (hnew _ _ e2)
    · by_cases h2 : k2 = k
      · subst h2
        rw [upd_same] at e2
        rw [upd_other _ _ h1] at e1
        cases e2
        exact absurd rfl (hnew _ _ e1)
      · rw [upd_other _ _ h1] at e1
        rw [upd_other _ _ h2] at e2
        exact p3 k1 k2 g' e1 e2
  · rw [upd_other _ _ (by omega)]
    exact p5 k' hk'
theorem not_isZ_put {M : Nat → Nat} {k o : Nat} {zs : List Nat} (hl : o + zs.length ≤ 4096) (hz : allZ zs = false) : ¬ isZ (putAt M (k * 4096 + o) zs) k := fun h => by
  obtain ⟨z, hz1, hz2⟩ := List.all_eq_false.1 hz
  obtain ⟨i, hi, rfl⟩ := List.getElem_of_mem hz1
  have := h (o + i) (by omega)
  rw [← Nat.add_assoc, putAt_in M (k * 4096 + o) zs i hi, List.getD_eq_getElem?_getD, List.getElem?_eq_getElem hi] at this
  exact hz2 (by simpa using this)
def LaidPost (w : World) (B : Nat) (T : Nat → Option Nat) (M : Nat → Nat) (e : Ending) (w' : World) : Prop := e = .returned (.tuple #[]) ∧ ∃ T', Held w' B T' M ∧ Keeps (Foot B T) w w' ∧ Grows w.heap.size T T'
set_option maxRecDepth 100000 in
set_option maxHeartbeats 4000000 in
theorem layWithin_old {w : World} {B : Nat} {T : Nat → Option Nat} {M : Nat → Nat} {k r b o c g n : Nat} {zs : List Nat} (h : Held w B T M) (hk : T k = some g) (hkb : k < 1048576) (hr : r < 4096) (hs : Sl w (.slice (some ⟨b, o, none⟩) n c) zs) (hn : n = zs.length) (hl : r + zs.length ≤ 4096) (hz : allZ zs = false) :
    Calls Try.prog 50 #[.map (some B), .int .u64 ((k * 4096 + r : Nat) : Int), .slice (some ⟨b, o, none⟩) n c] w (LaidPost w B T (putAt M (k * 4096 + r) zs)) := by
  have HH : Hid (Held w B T M) := h
  have HS : Hid (Sl w (.slice (some ⟨b, o, none⟩) n c) zs) := hs
  have hlk := h.1.look_some hk (by omega)
  have HP : Hid (Pg w g (pageOf M k)) := (h.2.1 k g hk).1
  have HN : Hid (¬ isZ (putAt M (k * 4096 + r) zs) k) := not_isZ_put hl hz
  have HZ : Hid (Calls Try.prog 59 #[.slice (some ⟨b, o, none⟩) n c] w fun e w' => e = .returned (.bool false) ∧ w' = w) := (zeros_any hs).mono fun e w' h => by rw [hz] at h; exact h
  obtain ⟨a, ha⟩ : ∃ a, a = k * 4096 + r := ⟨_, rfl⟩
  have HA : Hid (a = k * 4096 + r) := ha
  have q1 : (a : Int) / 4096 = (k : Int) := by omega
  have q2 : (a : Int) % 4096 = (r : Int) := by omega
  have hal : a < 4294967296 := by omega
  rw [← ha]
  have HK : Hid (T k = some g) := hk
  have HR : Hid (r + zs.length ≤ 4096) := hl
  have HNz : Hid (n = zs.length) := hn
  have HL : Hid (r + n ≤ (pageOf M k).length) := by rw [pageOf_length, hn]; exact hl
  have HMn : Hid (n = min zs.length (4096 - r)) := by show n = _; omega
  have hslc := fun W => slice_page W g r hr
  clear h hs ha hk hn hl hz
  go_enter Try.func50, Try.ntmps50
  go_wp2_with (first | (go_at_call 59; refine HZ.out.mono ?_; rintro e w' ⟨rfl, hw⟩; have hw := hw.symm; subst hw) | (refine wpList_copy_mid rfl (.tmp 31) (.tmp 32) rfl rfl rfl HP.out n HMn.out HS.out HL.out ?_; intro w1 h1 k1; have HG1 : Hid (Pg w1 g ((pageOf M k).take r ++ zs.take n ++ (pageOf M k).drop (r + n))) := h1; have HK1 : Hid (Keeps (fun j => j = g) w w1) := k1; clear h1 k1))
  go_end0
  have hg := HG1.out
  rw [HNz.out, List.take_length] at hg
  rw [HA.out]
  exact ⟨rfl, T, HH.out.wrote HK.out HS.out.small HR.out hg HK1.out HN.out, HK1.out.mono (fun i _ e => .inr ⟨k, by rw [e]; exact HK.out⟩), Grows.refl _ _⟩
theorem page_zero {M : Nat → Nat} {k : Nat} (h : isZ M k) : zeros4 = pageOf M k := page_ext List.length_replicate fun i hi => by rw [zeros4, List.getElem?_replicate, if_pos hi, h i hi]
theorem new_pg {w w1 w2 : World} {B : Nat} {L : List Nat} (hp : zeros4 = L) (h1 : w1 = w.alloc (.cells (bvs zeros4).toArray 125)) (h2 : Keeps (fun j => j = B) w1 w2) (hB : B < w.heap.size) : Pg w2 w.heap.size L := by
  subst h1
  refine (show Pg (w.alloc (.cells (bvs zeros4).toArray 125)) w.heap.size L from ?_).keeps h2 (by omega)
  rw [← hp]
  exact heap_alloc_new w _
theorem new_sl {w w1 w2 : World} {B b o n c : Nat} {zs : List Nat} {O : Obj} (hs : Sl w (.slice (some ⟨b, o, none⟩) n c) zs) (h1 : w1 = w.alloc O) (h2 : Keeps (fun j => j = B) w1 w2) (hB : b ≠ B) : Sl w2 (.slice (some ⟨b, o, none⟩) n c) zs := by
  subst h1
  exact (hs.below ((Below.refl _ _).alloc (Nat.le_refl _) _)).keeps h2 (fun k e => by cases e; exact hB)
set_option maxRecDepth 100000 in
set_option maxHeartbeats 4000000 in
theorem layWithin_new {w : World} {B : Nat} {T : Nat → Option Nat} {M : Nat → Nat} {k r b o c n : Nat} {zs : List Nat} (h : Held w B T M) (hk : T k = none) (hkb : k < 1048576) (hr : r < 4096) (hs : Sl w (.slice (some ⟨b, o, none⟩) n c) zs) (hn : n = zs.length) (hl : r + zs.length ≤ 4096) (hz : allZ zs = false) (hbw : b < w.heap.size) (hbB : b ≠ B) :
    Calls Try.prog 50 #[.map (some B), .int .u64 ((k * 4096 + r : Nat) : Int), .slice (some ⟨b, o, none⟩) n c] w (LaidPost w B T (putAt M (k * 4096 + r) zs)) := by
  have HH : Hid (Held w B T M) := h
  have HS : Hid (Sl w (.slice (some ⟨b, o, none⟩) n c) zs) := hs
  have hlk := h.1.look_none hk (by omega)
  have HP : Hid (zeros4 = pageOf M k) := page_zero (h.2.2.1 k hk)
  have HN : Hid (¬ isZ (putAt M (k * 4096 + r) zs) k) := not_isZ_put hl hz
  have HZ : Hid (Calls Try.prog 59 #[.slice (some ⟨b, o, none⟩) n c] w fun e w' => e = .returned (.bool false) ∧ w' = w) := (zeros_any hs).mono fun e w' h => by rw [hz] at h; exact h
  obtain ⟨a, ha⟩ : ∃ a, a = k * 4096 + r := ⟨_, rfl⟩
  have HA : Hid (a = k * 4096 + r) := ha
  have q1 : (a : Int) / 4096 = (k : Int) := by omega
  have q2 : (a : Int) % 4096 = (r : Int) := by omega
  have hal : a < 4294967296 := by omega
  rw [← ha]
  have HK : Hid (T k = none) := hk
  have HR : Hid (r + zs.length ≤ 4096) := hl
  have HNz : Hid (n = zs.length) := hn
  have HL : Hid (r + n ≤ (pageOf M k).length) := by rw [pageOf_length, hn]; exact hl
  have HMn : Hid (n = min zs.length (4096 - r)) := by show n = _; omega
  have HC : Hid (cnt M < maxLen) := Nat.lt_of_le_of_lt (cnt_le M) (by decide)
  have HBn : Hid (b < w.heap.size ∧ b ≠ B) := ⟨hbw, hbB⟩
  have HKb : Hid (k < 4503599627370496) := (by omega : k < 4503599627370496)
  have hslc := fun W => slice_page W w.heap.size r hr
  clear h hs ha hk hn hl hz hbw hbB
  go_enter Try.func50, Try.ntmps50
  go_wp2_with (first | (go_at_call 59; refine HZ.out.mono ?_; rintro e w' ⟨rfl, hw⟩; have hw := hw.symm; subst hw) | (refine wpList_new_page rfl rfl ?_; intro w1 hw1; have HW1 : Hid (w1 = w.alloc (.cells (bvs zeros4).toArray 125)) := hw1; have HM1 : Hid (MapT w1 B T (cnt M)) := (by rw [hw1]; exact (HH.out.below ((Below.refl _ _).alloc (Nat.le_refl _) _)).1); clear hw1) | (refine wpList_put_page rfl (.tmp 24) (.tmp 25) (.tmp 26) rfl rfl rfl rfl HM1.out HK.out HKb.out HC.out ?_; intro w2 h2 k2; have HM2 : Hid (MapT w2 B (upd T k (some w.heap.size)) (cnt M + 1)) := h2; have HK2 : Hid (Keeps (fun j => j = B) w1 w2) := k2; clear h2 k2; have HG2 : Hid (Pg w2 w.heap.size (pageOf M k)) := new_pg HP.out HW1.out HK2.out HH.out.1.lt; have HS2 : Hid (Sl w2 (.slice (some ⟨b, o, none⟩) n c) zs) := new_sl HS.out HW1.out HK2.out HBn.out.2) | (refine wpList_copy_mid rfl (.tmp 31) (.tmp 32) rfl rfl rfl HG2.out n HMn.out HS2.out HL.out ?_; intro w3 h3 k3; have HG3 : Hid (Pg w3 w.heap.size ((pageOf M k).take r ++ zs.take n ++ (pageOf M k).drop (r + n))) := h3; have HK3 : Hid (Keeps (fun j => j = w.heap.size) w2 w3) := k3; clear h3 k3))
  go_end0
  have hg := HG3.out
  rw [HNz.out, List.take_length] at hg
  rw [HA.out]
  have hk1 : Keeps (fun j => j = B) w w1 := by rw [HW1.out]; exact Keeps.alloc _ _
  have hk3 : Keeps (fun j => j = B) w w3 := (hk1.trans HK2.out (fun _ _ e => e)).trans HK3.out (fun i hi e => absurd e (by omega))
  have hlt := HH.out.1.lt
  refine ⟨rfl, _, HH.out.fresh HK.out hkb HS.out.small HR.out (Nat.le_refl _) (HM2.out.keeps HK3.out (by omega)) hg hk3 HN.out, hk3.mono (fun i _ e => .inl e), fun k' g' e => ?_⟩
  by_cases hk' : k' = k
  · rw [hk', upd_same] at e
    cases e
    exact .inr (Nat.le_refl _)
  · rw [upd_other _ _ hk'] at e
    exact .inl e
end Go.Proofs.Ytehedllcdpjebaa
