/- layWithin: zeros laid into one page. Own work. -/
import Derived.Test.YtehedllcdpjebaaBLay
import Derived.Test.YtehedllcdpjebaaBEq
namespace Go.Proofs.Ytehedllcdpjebaa
open Go.RowKit Go.Maps
theorem allZ_get {zs : List Nat} (h : allZ zs = true) (i : Nat) : zs.getD i 0 = 0 := by
  by_cases hi : i < zs.length
  · have := List.all_eq_true.1 h _ (List.getElem_mem hi)
    rw [List.getD_eq_getElem?_getD, List.getElem?_eq_getElem hi]
    simpa using this
  · rw [List.getD_eq_getElem?_getD, List.getElem?_eq_none (by omega)]; rfl
theorem put_zero {M : Nat → Nat} {k r : Nat} {zs : List Nat} (hl : r + zs.length ≤ 4096) (hz : allZ zs = true) (h : isZ M k) : putAt M (k * 4096 + r) zs = M := by
  funext p
  by_cases hp : k * 4096 + r ≤ p ∧ p < k * 4096 + r + zs.length
  · rw [show putAt M (k * 4096 + r) zs p = zs.getD (p - (k * 4096 + r)) 0 from if_pos hp, allZ_get hz]
    have := h (p - k * 4096) (by omega)
    rw [show k * 4096 + (p - k * 4096) = p by omega] at this
    exact this.symm
  · exact if_neg hp
/-- a page that has become all 0 is taken out -/
theorem Held.dropped {w w' : World} {B : Nat} {T : Nat → Option Nat} {M : Nat → Nat} {k o g : Nat} {zs : List Nat} (h : Held w B T M) (hk : T k = some g) (hz : ∀ z ∈ zs, z < 256) (hl : o + zs.length ≤ 4096) {c : Nat} (hcc : cnt M = c + 1)
    (hm : MapT w' B (upd T k none) c) (hK : Keeps (fun j => j = g ∨ j = B) w w') (hn : isZ (putAt M (k * 4096 + o) zs) k) : Held w' B (upd T k none) (putAt M (k * 4096 + o) zs) := by
  obtain ⟨p1, p2, p3, p4, p5⟩ := h.2
  have hz1 : nz M k = true := nz_true (p1 k g hk).2
  have hz2 : nz (putAt M (k * 4096 + o) zs) k = false := nz_false.2 hn
  have hc : cnt (putAt M (k * 4096 + o) zs) = c := by
    have := cnt_one (M := M) (M' := putAt M (k * 4096 + o) zs) (h.low hk) (fun j hj => by unfold nz; rw [page_put_other M hl hj])
    rw [hz1, hz2, hcc] at this
    simpa using this
  refine ⟨by rw [hc]; exact hm, fun k' g' e => ?_, fun k' e => ?_, fun k1 k2 g' e1 e2 => ?_, putAt_small p4 hz, fun k' hk' => ?_⟩
  · by_cases hk' : k' = k
    · subst hk'
      rw [upd_same] at e
      cases e
    · rw [upd_other _ _ hk'] at e
      rw [page_put_other M hl hk']
      exact ⟨((p1 k' g' e).1).keeps hK (fun e' => e'.elim (fun e' => hk' (p3 k' k g' e (by rw [hk, e']))) (h.apart e)), fun hz' => (p1 k' g' e).2 (isZ_congr (fun i hi => (put_other M hl hk' i hi).symm) hz')⟩
  · by_cases hk' : k' = k
    · subst hk'
      exact hn
    · rw [upd_other _ _ hk'] at e
      exact isZ_congr (put_other M hl hk') (p2 k' e)
  · have h1 : k1 ≠ k := fun e => by rw [e, upd_same] at e1; cases e1
    have h2 : k2 ≠ k := fun e => by rw [e, upd_same] at e2; cases e2
    rw [upd_other _ _ h1] at e1
    rw [upd_other _ _ h2] at e2
    exact p3 k1 k2 g' e1 e2
  · by_cases h1 : k' = k
    · rw [h1, upd_same]
    · rw [upd_other _ _ h1]
      exact p5 k' hk'
theorem page_is_zero {M : Nat → Nat} {k : Nat} : (pageOf M k == zeros4) = !nz M k := by
  cases e : nz M k with
  | false =>
    rw [← page_zero (nz_false.1 e)]
    simp
  | true =>
    have : pageOf M k ≠ zeros4 := fun h => by
      have h2 : isZ M k := fun i hi => by
        have := pageOf_get M k i hi
        rw [h, zeros4, List.getElem?_replicate, if_pos hi] at this
        exact (Option.some.inj this).symm
      rw [nz_false.2 h2] at e
      cases e
    simpa using this
set_option maxRecDepth 100000 in
set_option maxHeartbeats 4000000 in
theorem layWithin_none {w : World} {B : Nat} {T : Nat → Option Nat} {M : Nat → Nat} {k r b o c n : Nat} {zs : List Nat} (h : Held w B T M) (hk : T k = none) (hkb : k < 1048576) (hr : r < 4096) (hs : Sl w (.slice (some ⟨b, o, none⟩) n c) zs) (hl : r + zs.length ≤ 4096) (hz : allZ zs = true) :
    Calls Try.prog 50 #[.map (some B), .int .u64 ((k * 4096 + r : Nat) : Int), .slice (some ⟨b, o, none⟩) n c] w (LaidPost w B T (putAt M (k * 4096 + r) zs)) := by
  rw [put_zero hl hz (h.2.2.1 k hk)]
  have HH : Hid (Held w B T M) := h
  have hlk := h.1.look_none hk (by omega)
  have HZ : Hid (Calls Try.prog 59 #[.slice (some ⟨b, o, none⟩) n c] w fun e w' => e = .returned (.bool true) ∧ w' = w) := (zeros_any hs).mono fun e w' h => by rw [hz] at h; exact h
  obtain ⟨a, ha⟩ : ∃ a, a = k * 4096 + r := ⟨_, rfl⟩
  have q1 : (a : Int) / 4096 = (k : Int) := by omega
  have hal : a < 4294967296 := by omega
  rw [← ha]
  clear h hs ha hk hl hz
  go_enter Try.func50, Try.ntmps50
  go_wp2_with (first | (go_at_call 59; refine HZ.out.mono ?_; rintro e w' ⟨rfl, hw⟩; have hw := hw.symm; subst hw))
  refine bodyPost_ret (results_none rfl _ _ _) rfl ?_
  exact ⟨rfl, T, HH.out, Keeps.refl _ _, Grows.refl _ _⟩
set_option maxRecDepth 100000 in
set_option maxHeartbeats 4000000 in
theorem layWithin_zero {w : World} {B : Nat} {T : Nat → Option Nat} {M : Nat → Nat} {k r b o c g n : Nat} {zs : List Nat} (h : Held w B T M) (hk : T k = some g) (hkb : k < 1048576) (hr : r < 4096) (hs : Sl w (.slice (some ⟨b, o, none⟩) n c) zs) (hn : n = zs.length) (hl : r + zs.length ≤ 4096) (hz : allZ zs = true) :
    Calls Try.prog 50 #[.map (some B), .int .u64 ((k * 4096 + r : Nat) : Int), .slice (some ⟨b, o, none⟩) n c] w (LaidPost w B T (putAt M (k * 4096 + r) zs)) := by
  have HH : Hid (Held w B T M) := h
  have HS : Hid (Sl w (.slice (some ⟨b, o, none⟩) n c) zs) := hs
  have hlk := h.1.look_some hk (by omega)
  have HP : Hid (Pg w g (pageOf M k)) := (h.2.1 k g hk).1
  have HZ : Hid (Calls Try.prog 59 #[.slice (some ⟨b, o, none⟩) n c] w fun e w' => e = .returned (.bool true) ∧ w' = w) := (zeros_any hs).mono fun e w' h => by rw [hz] at h; exact h
  obtain ⟨c', hc'⟩ : ∃ c', cnt M = c' + 1 := by
    have h1 := cnt_one (M := M) (M' := putAt M (k * 4096) (List.replicate 4096 0)) (k := k) (h.low hk) (fun j hj => by unfold nz; rw [show k * 4096 = k * 4096 + 0 from rfl, page_put_other M (by rw [List.length_replicate]; omega) hj])
    rw [nz_true (h.2.1 k g hk).2] at h1
    have h2 : isZ (putAt M (k * 4096) (List.replicate 4096 0)) k := fun i hi => by
      rw [putAt_in _ _ _ _ (by rw [List.length_replicate]; exact hi)]
      exact allZ_get (List.all_eq_true.2 (fun z hz => by rw [List.eq_of_mem_replicate hz]; rfl)) i
    rw [nz_false.2 h2] at h1
    exact ⟨_, by simpa using h1.symm⟩
  have HCc : Hid (cnt M = c' + 1) := hc'
  obtain ⟨a, ha⟩ : ∃ a, a = k * 4096 + r := ⟨_, rfl⟩
  have HA : Hid (a = k * 4096 + r) := ha
  have q1 : (a : Int) / 4096 = (k : Int) := by omega
  have q2 : (a : Int) % 4096 = (r : Int) := by omega
  have hal : a < 4294967296 := by omega
  rw [← ha]
  have HK : Hid (T k = some g) := hk
  have HR : Hid (r + zs.length ≤ 4096) := hl
  have HNz : Hid (n = zs.length) := hn
  have HL : Hid (r + n ≤ (pageOf M k).length) := by rw [pageOf_length, hn]; exact hl
  have HMn : Hid (n = min zs.length (4096 - r)) := by show n = _; omega
  have HE : Hid ((pageOf M k).take r ++ zs.take n ++ (pageOf M k).drop (r + n) = pageOf (putAt M a zs) k) := by
    show _ = _
    rw [hn, List.take_length, ha]; exact page_put_same M k r zs hl
  have HKb : Hid (k < 4503599627370496) := (by omega : k < 4503599627370496)
  have hslc := fun W => slice_page W g r hr
  obtain ⟨bz, hbz⟩ : ∃ bz, nz (putAt M a zs) k = bz := ⟨_, rfl⟩
  have HBz : Hid (nz (putAt M a zs) k = bz) := hbz
  have HEq : Hid ((pageOf (putAt M a zs) k == zeros4) = !bz) := by show _ = _; rw [page_is_zero, hbz]
  clear h hs ha hk hn hl hz hbz hc'
  cases bz with
  | true =>
    go_enter Try.func50, Try.ntmps50
    go_wp2_with (first | (go_at_call 59; refine HZ.out.mono ?_; rintro e w' ⟨rfl, hw⟩; have hw := hw.symm; subst hw) | (refine wpList_copy_mid rfl (.tmp 31) (.tmp 32) rfl rfl rfl HP.out n HMn.out HS.out HL.out ?_; intro w1 h1 k1; rw [HE.out] at h1; have HG1 : Hid (Pg w1 g (pageOf (putAt M a zs) k)) := h1; have HK1 : Hid (Keeps (fun j => j = g) w w1) := k1; clear h1 k1) | (refine wpList_load_page rfl (.tmp 37) rfl rfl HG1.out (pageOf_length _ _) ?_) | (refine wpList_build_page rfl rfl ?_) | (refine wpList_eql_page rfl (.tmp 38) (.tmp 39) rfl rfl rfl (pageOf_length _ _) List.length_replicate HEq.out ?_))
    go_end0
    have hg := HG1.out
    rw [← HE.out, HNz.out, List.take_length] at hg
    have hb := HBz.out
    rw [HA.out] at hb ⊢
    exact ⟨rfl, T, HH.out.wrote HK.out HS.out.small HR.out hg HK1.out (fun hz => by rw [nz_false.2 hz] at hb; cases hb), HK1.out.mono (fun i _ e => .inr ⟨k, by rw [e]; exact HK.out⟩), Grows.refl _ _⟩
  | false =>
    have HM1 : Hid (∀ w1, Keeps (fun j => j = g) w w1 → MapT w1 B T (c' + 1)) := fun w1 hk => by rw [← HCc.out]; exact HH.out.1.keeps hk (fun e => HH.out.apart HK.out e.symm)
    go_enter Try.func50, Try.ntmps50
    go_wp2_with (first | (go_at_call 59; refine HZ.out.mono ?_; rintro e w' ⟨rfl, hw⟩; have hw := hw.symm; subst hw) | (refine wpList_copy_mid rfl (.tmp 31) (.tmp 32) rfl rfl rfl HP.out n HMn.out HS.out HL.out ?_; intro w1 h1 k1; rw [HE.out] at h1; have HG1 : Hid (Pg w1 g (pageOf (putAt M a zs) k)) := h1; have HK1 : Hid (Keeps (fun j => j = g) w w1) := k1; clear h1 k1) | (refine wpList_load_page rfl (.tmp 37) rfl rfl HG1.out (pageOf_length _ _) ?_) | (refine wpList_build_page rfl rfl ?_) | (refine wpList_eql_page rfl (.tmp 38) (.tmp 39) rfl rfl rfl (pageOf_length _ _) List.length_replicate HEq.out ?_) | (refine wpList_del_page rfl (.tmp 42) (.tmp 43) rfl rfl rfl (HM1.out w1 HK1.out) HK.out HKb.out ?_; intro w2 h2 k2; have HM2 : Hid (MapT w2 B (upd T k none) c') := h2; have HK2 : Hid (Keeps (fun j => j = B) w1 w2) := k2; clear h2 k2))
    go_end0
    have hb := HBz.out
    rw [HA.out] at hb ⊢
    have hk2 : Keeps (fun j => j = g ∨ j = B) w w2 := (HK1.out.mono (fun _ _ e => .inl e)).trans HK2.out (fun _ _ e => .inr e)
    refine ⟨rfl, _, HH.out.dropped HK.out HS.out.small HR.out HCc.out HM2.out hk2 (nz_false.1 hb), hk2.mono (fun i _ e => e.elim (fun e => .inr ⟨k, by rw [e]; exact HK.out⟩) .inl), fun k' g' e => ?_⟩
    by_cases hk' : k' = k
    · rw [hk', upd_same] at e
      cases e
    · rw [upd_other _ _ hk'] at e
      exact .inl e
theorem layWithin_any {w : World} {B : Nat} {T : Nat → Option Nat} {M : Nat → Nat} {a b o c n : Nat} {zs : List Nat} (h : Held w B T M) (ha : a < 4294967296) (hs : Sl w (.slice (some ⟨b, o, none⟩) n c) zs) (hn : n = zs.length) (hl : a % 4096 + zs.length ≤ 4096) (hbw : b < w.heap.size) (hbB : b ≠ B) :
    Calls Try.prog 50 #[.map (some B), .int .u64 (a : Int), .slice (some ⟨b, o, none⟩) n c] w (LaidPost w B T (putAt M a zs)) := by
  obtain ⟨k, r, rfl, hr, hk⟩ : ∃ k r, a = k * 4096 + r ∧ r < 4096 ∧ k < 1048576 := ⟨a / 4096, a % 4096, by omega, by omega, by omega⟩
  rw [show (k * 4096 + r) % 4096 = r by omega] at hl
  cases hz : allZ zs with
  | false =>
    cases hT : T k with
    | none => exact layWithin_new h hT hk hr hs hn hl hz hbw hbB
    | some g => exact layWithin_old h hT hk hr hs hn hl hz
  | true =>
    cases hT : T k with
    | none => exact layWithin_none h hT hk hr hs hl hz
    | some g => exact layWithin_zero h hT hk hr hs hn hl hz
end Go.Proofs.Ytehedllcdpjebaa
