import Derived.Test.YtlplbbnicfeoaaaGreatPk17
import Derived.Deep.RegionLaw
/- layWithin: zeros laid into one page. Own work. -/
namespace Go.Proofs.YtlplbbnicfeoaaaGreat
open Go.RowKit Go.Maps
theorem allZ_get {zs : List Nat} (h : allZ zs = true) (i : Nat) : zs.getD i 0 = 0 := by
  by_cases hi : i < zs.length
  · have := List.all_eq_true.1 h _ (List.getElem_mem hi)
    rw [List.getD_eq_getElem?_getD, List.getElem?_eq_getElem hi]
    simpa using this
  · rw [List.getD_eq_getElem?_getD, List.getElem?_eq_none (by omega)]; rfl
theorem put_zero {M : Nat → Nat} {k r : Nat} {zs : List Nat} (hl : r + zs.length ≤ 4096) (hz : allZ zs = true) (h : isZ M k) : putAt M (k * 4096 + r) zs = M := by
  funext p
  by_cases hp : k * 4096 + r ≤ p ∧ p < k * 4096 + r + zs.length
  · rw [show putAt M (k * 4096 + r) zs p = zs.getD (p - (k * 4096 + r)) 0 from if_pos hp, allZ_get hz]
    have := h (p - k * 4096) (by omega)
    rw [show k * 4096 + (p - k * 4096) = p by omega] at this
    exact this.symm
  · exact if_neg hp
/-- a page that has become all 0 is taken out -/
theorem Held.dropped {w w' : World} {B : Nat} {T : Nat → Option Nat} {M : Nat → Nat} {k o g : Nat} {zs : List Nat} (h : Held w B T M) (hk : T k = some g) (hz : ∀ z ∈ zs, z < 256) (hl : o + zs.length ≤ 4096) {c : Nat} (hcc : cnt M = c + 1)
    (hm : MapT w' B (upd T k none) c) (hK : Keeps (fun j => j = g ∨ j = B) w w') (hn : isZ (putAt M (k * 4096 + o) zs) k) : Held w' B (upd T k none) (putAt M (k * 4096 + o) zs) := by
  obtain ⟨p1, p2, p3, p4, p5⟩ := h.2
  have hz1 : nz M k = true := nz_true (p1 k g hk).2
  have hz2 : nz (putAt M (k * 4096 + o) zs) k = false := nz_false.2 hn
  have hc : cnt (putAt M (k * 4096 + o) zs) = c := by
    have := cnt_one (M := M) (M' := putAt M (k * 4096 + o) zs) (h.low hk) (fun j hj => by unfold nz; rw [page_put_other M hl hj])
    rw [hz1, hz2, hcc] at this
    simpa using this
  refine ⟨by rw [hc]; exact hm, fun k' g' e => ?_, fun k' e => ?_, fun k1 k2 g' e1 e2 => ?_, putAt_small p4 hz, fun k' hk' => ?_⟩
  · by_cases hk' : k' = k
    · subst hk'
      rw [upd_same] at e
      cases e
    · rw [upd_other _ _ hk'] at e
      rw [page_put_other M hl hk']
      exact ⟨((p1 k' g' e).1).keeps hK (fun e' => e'.elim (fun e' => hk' (p3 k' k g' e (by rw [hk, e']))) (h.apart e)), fun hz' => (p1 k' g' e).2 (isZ_congr (fun i hi => (put_other M hl hk' i hi).symm) hz')⟩
  · by_cases hk' : k' = k
    · subst hk'
      exact hn
    · rw [upd_other _ _ hk'] at e
      exact isZ_congr (put_other M hl hk') (p2 k' e)
  · have h1 : k1 ≠ k := fun e => by rw [e, upd_same] at e1; cases e1
    have h2 : k2 ≠ k := fun e => by rw [e, upd_same] at e2; cases e2
    rw [upd_other _ _ h1] at e1
    rw [upd_other _ _ h2] at e2
    exact p3 k1 k2 g' e1 e2
  · by_cases h1 : k' = k
    · rw [h1, upd_same]
    · rw [upd_other _ _ h1]
      exact p5 k' hk'
theorem page_is_zero {M : Nat → Nat} {k : Nat} : (pageOf M k == zeros4) = !nz M k := by
  cases e : nz M k with
  | false =>
    rw [← page_zero (nz_false.1 e)]
    simp
  | true =>
    have : pageOf M k ≠ zeros4 := fun h => by
      have h2 : isZ M k := fun i hi => by
        have := pageOf_get M k i hi
        rw [h, zeros4, List.getElem?_replicate, if_pos hi] at this
        exact (Option.some.inj this).symm
      rw [nz_false.2 h2] at e
      cases e
    simpa using this
set_option maxRecDepth 100000 in
set_option maxHeartbeats 4000000 in
theorem layWithin_none {w : World} {B : Nat} {T : Nat → Option Nat} {M : Nat → Nat} {k r b o c n : Nat} {zs : List Nat} (h : Held w B T M) (hk : T k = none) (hkb : k < 1048576) (hr : r < 4096) (hs : Sl w (.slice (some ⟨b, o, none⟩) n c) zs) (hl : r + zs.length ≤ 4096) (hz : allZ zs = true) :
    Calls Tryz.prog 74 #[.map (some B), .int .u64 ((k * 4096 + r : Nat) : Int), .slice (some ⟨b, o, none⟩) n c] w (LaidPost w B T (putAt M (k * 4096 + r) zs)) := by
  rw [put_zero hl hz (h.2.2.1 k hk)]
  have HH : Hid (Held w B T M) := h
  have hlk := h.1.look_none hk (by omega)
  have HZ : Hid (Calls Tryz.prog 89 #[.slice (some ⟨b, o, none⟩) n c] w fun e w' => e = .returned (.bool true) ∧ w' = w) := (zeros_any hs).mono fun e w' h => by rw [hz] at h; exact h
  obtain ⟨a, ha⟩ : ∃ a, a = k * 4096 + r := ⟨_, rfl⟩
  have q1 : (a : Int) / 4096 = (k : Int) := by omega
  have hal : a < 4294967296 := by omega
  rw [← ha]
  clear h hs ha hk hl hz
  go_enter Tryz.func74, Tryz.ntmps74
  go_wp2_with (first | (go_at_call 89; refine HZ.out.mono ?_; rintro e w' ⟨rfl, hw⟩; have hw := hw.symm; subst hw))
  refine bodyPost_ret (results_none rfl _ _ _) rfl ?_
  exact ⟨rfl, T, HH.out, Keeps.refl _ _, Grows.refl _ _⟩
set_option maxRecDepth 100000 in
set_option maxHeartbeats 4000000 in
theorem layWithin_zero {w : World} {B : Nat} {T : Nat → Option Nat} {M : Nat → Nat} {k r b o c g n : Nat} {zs : List Nat} (h : Held w B T M) (hk : T k = some g) (hkb : k < 1048576) (hr : r < 4096) (hs : Sl w (.slice (some ⟨b, o, none⟩) n c) zs) (hn : n = zs.length) (hl : r + zs.length ≤ 4096) (hz : allZ zs = true) :
    Calls Tryz.prog 74 #[.map (some B), .int .u64 ((k * 4096 + r : Nat) : Int), .slice (some ⟨b, o, none⟩) n c] w (LaidPost w B T (putAt M (k * 4096 + r) zs)) := by
  have HH : Hid (Held w B T M) := h
  have HS : Hid (Sl w (.slice (some ⟨b, o, none⟩) n c) zs) := hs
  have hlk := h.1.look_some hk (by omega)
  have HP : Hid (Pg w g (pageOf M k)) := (h.2.1 k g hk).1
  have HZ : Hid (Calls Tryz.prog 89 #[.slice (some ⟨b, o, none⟩) n c] w fun e w' => e = .returned (.bool true) ∧ w' = w) := (zeros_any hs).mono fun e w' h => by rw [hz] at h; exact h
  obtain ⟨c', hc'⟩ : ∃ c', cnt M = c' + 1 := by
    have h1 := cnt_one (M := M) (M' := putAt M (k * 4096) (List.replicate 4096 0)) (k := k) (h.low hk) (fun j hj => by unfold nz; rw [show k * 4096 = k * 4096 + 0 from rfl, page_put_other M (by rw [List.length_replicate]; omega) hj])
    rw [nz_true (h.2.1 k g hk).2] at h1
    have h2 : isZ (putAt M (k * 4096) (List.replicate 4096 0)) k := fun i hi => by
      rw [putAt_in _ _ _ _ (by rw [List.length_replicate]; exact hi)]
      exact allZ_get (List.all_eq_true.2 (fun z hz => by rw [List.eq_of_mem_replicate hz]; rfl)) i
    rw [nz_false.2 h2] at h1
    exact ⟨_, by simpa using h1.symm⟩
  have HCc : Hid (cnt M = c' + 1) := hc'
  obtain ⟨a, ha⟩ : ∃ a, a = k * 4096 + r := ⟨_, rfl⟩
  have HA : Hid (a = k * 4096 + r) := ha
  have q1 : (a : Int) / 4096 = (k : Int) := by omega
  have q2 : (a : Int) % 4096 = (r : Int) := by omega
  have hal : a < 4294967296 := by omega
  rw [← ha]
  have HK : Hid (T k = some g) := hk
  have HR : Hid (r + zs.length ≤ 4096) := hl
  have HNz : Hid (n = zs.length) := hn
  have HL : Hid (r + n ≤ (pageOf M k).length) := by rw [pageOf_length, hn]; exact hl
  have HMn : Hid (n = min zs.length (4096 - r)) := by show n = _; omega
  have HE : Hid ((pageOf M k).take r ++ zs.take n ++ (pageOf M k).drop (r + n) = pageOf (putAt M a zs) k) := by
    show _ = _
    rw [hn, List.take_length, ha]; exact page_put_same M k r zs hl
  have HKb : Hid (k < 4503599627370496) := (by omega : k < 4503599627370496)
  have hslc := fun W => slice_page W g r hr
  obtain ⟨bz, hbz⟩ : ∃ bz, nz (putAt M a zs) k = bz := ⟨_, rfl⟩
  have HBz : Hid (nz (putAt M a zs) k = bz) := hbz
  have HEq : Hid ((pageOf (putAt M a zs) k == zeros4) = !bz) := by show _ = _; rw [page_is_zero, hbz]
  clear h hs ha hk hn hl hz hbz hc'
  cases bz with
  | true =>
    go_enter Tryz.func74, Tryz.ntmps74
    go_wp2_with (first | (go_at_call 89; refine HZ.out.mono ?_; rintro e w' ⟨rfl, hw⟩; have hw := hw.symm; subst hw) | (refine wpList_copy_mid rfl (.tmp 31) (.tmp 32) rfl rfl rfl HP.out n HMn.out HS.out HL.out ?_; intro w1 h1 k1; rw [HE.out] at h1; have HG1 : Hid (Pg w1 g (pageOf (putAt M a zs) k)) := h1; have HK1 : Hid (Keeps (fun j => j = g) w w1) := k1; clear h1 k1) | (refine wpList_load_page rfl (.tmp 37) rfl rfl HG1.out (pageOf_length _ _) ?_) | (refine wpList_build_page rfl rfl ?_) | (refine wpList_eql_page rfl (.tmp 38) (.tmp 39) rfl rfl rfl (pageOf_length _ _) List.length_replicate HEq.out ?_))
    go_end0
    have hg := HG1.out
    rw [← HE.out, HNz.out, List.take_length] at hg
    have hb := HBz.out
    rw [HA.out] at hb ⊢
    exact ⟨rfl, T, HH.out.wrote HK.out HS.out.small HR.out hg HK1.out (fun hz => by rw [nz_false.2 hz] at hb; cases hb), HK1.out.mono (fun i _ e => .inr ⟨k, by rw [e]; exact HK.out⟩), Grows.refl _ _⟩
  | false =>
    have HM1 : Hid (∀ w1, Keeps (fun j => j = g) w w1 → MapT w1 B T (c' + 1)) := fun w1 hk => by rw [← HCc.out]; exact HH.out.1.keeps hk (fun e => HH.out.apart HK.out e.symm)
    go_enter Tryz.func74, Tryz.ntmps74
    go_wp2_with (first | (go_at_call 89; refine HZ.out.mono ?_; rintro e w' ⟨rfl, hw⟩; have hw := hw.symm; subst hw) | (refine wpList_copy_mid rfl (.tmp 31) (.tmp 32) rfl rfl rfl HP.out n HMn.out HS.out HL.out ?_; intro w1 h1 k1; rw [HE.out] at h1; have HG1 : Hid (Pg w1 g (pageOf (putAt M a zs) k)) := h1; have HK1 : Hid (Keeps (fun j => j = g) w w1) := k1; clear h1 k1) | (refine wpList_load_page rfl (.tmp 37) rfl rfl HG1.out (pageOf_length _ _) ?_) | (refine wpList_build_page rfl rfl ?_) | (refine wpList_eql_page rfl (.tmp 38) (.tmp 39) rfl rfl rfl (pageOf_length _ _) List.length_replicate HEq.out ?_) | (refine wpList_del_page rfl (.tmp 42) (.tmp 43) rfl rfl rfl (HM1.out w1 HK1.out) HK.out HKb.out ?_; intro w2 h2 k2; have HM2 : Hid (MapT w2 B (upd T k none) c') := h2; have HK2 : Hid (Keeps (fun j => j = B) w1 w2) := k2; clear h2 k2))
    go_end0
    have hb := HBz.out
    rw [HA.out] at hb ⊢
    have hk2 : Keeps (fun j => j = g ∨ j = B) w w2 := (HK1.out.mono (fun _ _ e => .inl e)).trans HK2.out (fun _ _ e => .inr e)
    refine ⟨rfl, _, HH.out.dropped HK.out HS.out.small HR.out HCc.out HM2.out hk2 (nz_false.1 hb), hk2.mono (fun i _ e => e.elim (fun e => .inr ⟨k, by rw [e]; exact HK.out⟩) .inl), fun k' g' e => ?_⟩
    by_cases hk' : k' = k
    · rw [hk', upd_same] at e
      cases e
    · rw [upd_other _ _ hk'] at e
      exact .inl e
theorem layWithin_any {w : World} {B : Nat} {T : Nat → Option Nat} {M : Nat → Nat} {a b o c n : Nat} {zs : List Nat} (h : Held w B T M) (ha : a < 4294967296) (hs : Sl w (.slice (some ⟨b, o, none⟩) n c) zs) (hn : n = zs.length) (hl : a % 4096 + zs.length ≤ 4096) (hbw : b < w.heap.size) (hbB : b ≠ B) :
    Calls Tryz.prog 74 #[.map (some B), .int .u64 (a : Int), .slice (some ⟨b, o, none⟩) n c] w (LaidPost w B T (putAt M a zs)) := by
  obtain ⟨k, r, rfl, hr, hk⟩ : ∃ k r, a = k * 4096 + r ∧ r < 4096 ∧ k < 1048576 := ⟨a / 4096, a % 4096, by omega, by omega, by omega⟩
  rw [show (k * 4096 + r) % 4096 = r by omega] at hl
  cases hz : allZ zs with
  | false =>
    cases hT : T k with
    | none => exact layWithin_new h hT hk hr hs hn hl hz hbw hbB
    | some g => exact layWithin_old h hT hk hr hs hn hl hz
  | true =>
    cases hT : T k with
    | none => exact layWithin_none h hT hk hr hs hl hz
    | some g => exact layWithin_zero h hT hk hr hs hn hl hz
end Go.Proofs.YtlplbbnicfeoaaaGreat
/- lay: bytes laid down over pages. Own work. -/
namespace Go.Proofs.YtlplbbnicfeoaaaGreat
open Go.RowKit Go.Maps
/-- where the loop of lay stands: i bytes are laid, the rest is read at v -/
def LayAt (w wr : World) (B : Nat) (T : Nat → Option Nat) (M : Nat → Nat) (a : Nat) (zs : List Nat) (v : Value) (i : Nat) : Prop :=
  ∃ T', Held wr B T' (putAt M a (zs.take i)) ∧ Keeps (Foot B T) w wr ∧ Grows w.heap.size T T' ∧ Sl wr v (zs.drop i)
theorem take_add (zs : List Nat) (i n : Nat) : zs.take i ++ (zs.drop i).take n = zs.take (i + n) := by rw [List.take_add]
theorem lay_step {w wr : World} {B : Nat} {T : Nat → Option Nat} {M : Nat → Nat} {a b o c m i n : Nat} {zs : List Nat} (h : LayAt w wr B T M a zs (.slice (some ⟨b, o, none⟩) m c) i) (hm : m = zs.length - i) (hi : i ≤ zs.length) (ha : a + zs.length ≤ 4294967296) (hn : n ≤ m) (hp : 0 < n) (hpg : (a + i) % 4096 + n ≤ 4096) (hb : ¬ Foot B T b) (hbw : b < w.heap.size) :
    Calls Tryz.prog 74 #[.map (some B), .int .u64 ((a + i : Nat) : Int), .slice (some ⟨b, o, none⟩) n c] wr fun e w' => e = .returned (.tuple #[]) ∧ Hid (∀ v', (∀ W, Sl W (.slice (some ⟨b, o, none⟩) m c) (zs.drop i) → Sl W v' (zs.drop (i + n))) → LayAt w w' B T M a zs v' (i + n)) := by
  obtain ⟨T', hH, hK, hG, hS⟩ := h
  have hl : (zs.drop i).length = m := by rw [List.length_drop, hm]
  have hS' : Sl wr (.slice (some ⟨b, o, none⟩) n c) ((zs.drop i).take n) := by
    rw [← hl] at hS
    exact hS.front n (by omega)
  have hbf : ¬ Foot B T' b := fun hf => hb (hG.foot hf hbw)
  have htl : ((zs.drop i).take n).length = n := by rw [List.length_take, hl]; omega
  refine (layWithin_any hH (a := a + i) (by omega) hS' htl.symm (by rw [htl]; exact hpg) (Nat.lt_of_lt_of_le hbw hK.size) (fun e => hbf (.inl e))).mono ?_
  rintro e w' ⟨rfl, T2, h2, k2, g2⟩
  refine ⟨rfl, fun v' hv => ⟨T2, ?_, hK.trans k2 (fun j hj hf => hG.foot hf hj), hG.trans g2 hK.size, hv w' (hS.keeps k2 (fun j e => by cases e; exact hbf))⟩⟩
  have e1 : a + i = a + (zs.take i).length := by rw [List.length_take]; omega
  rw [e1, putAt_append, take_add] at h2
  exact h2
theorem tail_sl {b o m c n i : Nat} {zs : List Nat} (hm : m = zs.length - i) (hn : n ≤ m) (W : World) (h : Sl W (.slice (some ⟨b, o, none⟩) m c) (zs.drop i)) : Sl W (.slice (some ⟨b, if c = n then o else o + n, none⟩) (m - n) (c - n)) (zs.drop (i + n)) := by
  have hl : (zs.drop i).length = m := by rw [List.length_drop, hm]
  have hl2 : (zs.drop (i + n)).length = m - n := by rw [List.length_drop]; omega
  obtain ⟨ao, cap, e, h1, h2, h3, h4, h5⟩ := h
  cases e
  refine ⟨_, c - n, by rw [hl2], by rw [hl2]; omega, by omega, fun z hz => h3 z (by rw [← List.drop_drop] at hz; exact List.mem_of_mem_drop hz), by simp, fun j hj => ?_⟩
  have hc : c ≠ n := by omega
  obtain ⟨b', o', e', hcell⟩ := h5 (n + j) (by omega)
  cases e'
  refine ⟨b, o + n, by rw [if_neg hc], ?_⟩
  rw [Nat.add_assoc, hcell]
  congr 3
  simp only [List.getD_eq_getElem?_getD, List.getElem?_drop]
  congr 2
  omega
theorem LayAt.drew {w wr : World} {B : Nat} {T : Nat → Option Nat} {M : Nat → Nat} {a : Nat} {zs : List Nat} {v : Value} {i : Nat} (h : LayAt w wr B T M a zs v i) : LayAt w wr.drew B T M a zs v i := by
  obtain ⟨T', h1, h2, h3, h4⟩ := h
  exact ⟨T', h1, h2.drew, h3, h4⟩
set_option maxRecDepth 100000 in
set_option maxHeartbeats 4000000 in
theorem lay_some {w : World} {B : Nat} {T : Nat → Option Nat} {M : Nat → Nat} {a b o c : Nat} {zs : List Nat} (h : Held w B T M) (ha : a + zs.length ≤ 4294967296) (hs : Sl w (.slice (some ⟨b, o, none⟩) zs.length c) zs) (hb : ¬ Foot B T b) (hbw : b < w.heap.size) :
    Calls Tryz.prog 44 #[.map (some B), .int .u64 (a : Int), .slice (some ⟨b, o, none⟩) zs.length c] w (LaidPost w B T (putAt M a zs)) := by
  have HL0 : Hid (LayAt w w B T M a zs (.slice (some ⟨b, o, none⟩) zs.length c) 0) := ⟨T, by rw [List.take_zero, putAt_nil]; exact h, Keeps.refl _ _, Grows.refl _ _, hs⟩
  have HB : Hid (¬ Foot B T b ∧ b < w.heap.size) := ⟨hb, hbw⟩
  have hcap : zs.length ≤ c ∧ c ≤ maxLen := by obtain ⟨ao, cap, e, h1, h2, _⟩ := hs; cases e; exact ⟨h1, h2⟩
  clear h hs hb hbw
  unfold maxLen at hcap
  go_enter Tryz.func44, Tryz.ntmps44
  go_wp2_with fail
  go_loopw [1, 2] (fun x v wr => ∃ i o' m c' : Nat, i ≤ zs.length ∧ m ≤ c' ∧ c' ≤ 9223372036854775807 ∧ x = .int .u64 ((a + i : Nat) : Int) ∧ v = .slice (some ⟨b, o', none⟩) m c' ∧ Hid (m = zs.length - i) ∧ Hid (LayAt w wr B T M a zs (.slice (some ⟨b, o', none⟩) m c') i)) (fun _ v _ => match v with | .slice _ m _ => m | _ => 0)
  case atStart => exact ⟨0, o, zs.length, c, by omega, by omega, by omega, rfl, rfl, (rfl : _ = _), HL0⟩
  case round =>
    obtain ⟨i, o', m, c', hi, hmc, hc', rfl, rfl, HM, HL⟩ := hrel
    by_cases hlt : 0 < m
    · obtain ⟨n, hn⟩ : ∃ n, n = min m (4096 - (a + i) % 4096) := ⟨_, rfl⟩
      have HW : Hid (Calls Tryz.prog 73 #[.int .u64 ((a + i : Nat) : Int), .int .i64 (m : Int)] wr fun e w' => e = .returned (.int .i64 (n : Int)) ∧ w' = wr) := by rw [hn]; exact within_any (by omega) wr
      have n1 : n ≤ m := by omega
      have n2 : 0 < n := by omega
      have HS : Hid (Calls Tryz.prog 74 #[.map (some B), .int .u64 ((a + i : Nat) : Int), .slice (some ⟨b, o', none⟩) n c'] wr fun e w' => e = .returned (.tuple #[]) ∧ Hid (∀ v', (∀ W, Sl W (.slice (some ⟨b, o', none⟩) m c') (zs.drop i) → Sl W v' (zs.drop (i + n))) → LayAt w w' B T M a zs v' (i + n))) := lay_step HL.out HM.out hi ha n1 n2 (by omega) HB.out.1 HB.out.2
      have hab : a + i + n ≤ 4294967296 := by have := HM.out; omega
      have hnm : i + n ≤ zs.length := by have := HM.out; omega
      clear hn
      go_wp2_with (first | (go_at_call 73; refine HW.out.mono ?_; rintro e w' ⟨rfl, hw⟩; have hw := hw.symm; subst hw) | (go_at_call 74; refine HS.out.mono ?_; rintro e w2 ⟨rfl, HS2⟩))
      go_region
      go_wp2_with fail
      go_roundw
      case rel => exact ⟨i + n, if c' = n then o' else o' + n, m - n, c' - n, hnm, by omega, by omega, by go_num, by split <;> rfl, (by have := HM.out; omega : m - n = zs.length - (i + n)), (HS2.out _ (tail_sl HM.out n1)).drew⟩
      case measure => simp; omega
    · have HE : Hid (i = zs.length) := (by have := HM.out; omega : i = zs.length)
      go_wp2_with fail
      go_end0
      obtain ⟨T', h1, h2, h3, _⟩ := HL.out
      rw [HE.out, List.take_length] at h1
      exact ⟨rfl, T', h1, h2, h3⟩
end Go.Proofs.YtlplbbnicfeoaaaGreat
/- read: bytes read over pages into a row of zeros. Own work. -/
namespace Go.Proofs.YtlplbbnicfeoaaaGreat
open Go.RowKit Go.Maps
theorem Pg.sl {w : World} {g : Nat} {M : Nat → Nat} {k r : Nat} (h : Pg w g (pageOf M k)) (hz : ∀ p, M p < 256) (hr : r < 4096) : Sl w (.slice (some ⟨g, r, none⟩) (4096 - r) (4096 - r)) ((pageOf M k).drop r) := by
  have hl : ((pageOf M k).drop r).length = 4096 - r := by rw [List.length_drop, pageOf_length]
  refine ⟨_, 4096 - r, by rw [hl], by rw [hl]; omega, by unfold maxLen; omega, fun z hz' => ?_, by simp, fun i hi => ⟨g, r, rfl, ?_⟩⟩
  · obtain ⟨i, hi, rfl⟩ := List.getElem_of_mem (List.mem_of_mem_drop hz')
    rw [pageOf_length] at hi
    have := pageOf_get M k i hi
    rw [List.getElem?_eq_getElem (by rw [pageOf_length]; exact hi)] at this
    rw [Option.some.inj this]
    exact hz _
  · rw [cell_of_row w g (r + i) _ _ _ h, List.getElem?_toArray, bvs_get _ _ (by rw [pageOf_length]; omega)]
    simp only [List.getD_eq_getElem?_getD, List.getElem?_drop]
/-- what the row holds when i bytes are read -/
def rdTo (M : Nat → Nat) (a C i : Nat) : List Nat := bytesAt M a i ++ List.replicate (C - i) 0
theorem rdTo_length (M : Nat → Nat) (a C i : Nat) (h : i ≤ C) : (rdTo M a C i).length = C := by
  rw [rdTo, List.length_append, bytesAt_length, List.length_replicate]; omega
theorem rdTo_zero (M : Nat → Nat) (a C : Nat) : rdTo M a C 0 = List.replicate C 0 := by simp [rdTo, bytesAt]
theorem bytesAt_add (M : Nat → Nat) (a i n : Nat) : bytesAt M a (i + n) = bytesAt M a i ++ bytesAt M (a + i) n := by
  refine (bytesAt_ext (by rw [List.length_append, bytesAt_length, bytesAt_length]) fun j hj => ?_).symm
  by_cases h : j < i
  · rw [List.getElem?_append_left (by rw [bytesAt_length]; exact h), bytesAt_get _ _ _ _ h]
  · rw [List.getElem?_append_right (by rw [bytesAt_length]; omega), bytesAt_length, bytesAt_get _ _ _ _ (by omega)]
    congr 2
    omega
theorem rdTo_copy {M : Nat → Nat} {a C i n k r : Nat} (ha : a + i = k * 4096 + r) (hn : r + n ≤ 4096) : (rdTo M a C i).take i ++ ((pageOf M k).drop r).take n ++ (rdTo M a C i).drop (i + n) = rdTo M a C (i + n) := by
  have e1 : (rdTo M a C i).take i = bytesAt M a i := by
    rw [rdTo, List.take_append_of_le_length (by rw [bytesAt_length]; omega), List.take_of_length_le (by rw [bytesAt_length]; omega)]
  have e2 : (rdTo M a C i).drop (i + n) = List.replicate (C - (i + n)) 0 := by
    have e0 : (rdTo M a C i).drop i = List.replicate (C - i) 0 := by
      rw [rdTo]
      exact List.drop_left' (bytesAt_length M a i)
    rw [← List.drop_drop, e0, List.drop_replicate]
    congr 1
    omega
  have e3 : ((pageOf M k).drop r).take n = bytesAt M (a + i) n := by
    refine bytesAt_ext (by rw [List.length_take, List.length_drop, pageOf_length]; omega) fun j hj => ?_
    rw [List.getElem?_take_of_lt hj, List.getElem?_drop, pageOf_get _ _ _ (by omega), ha, Nat.add_assoc]
  rw [e1, e2, e3, ← bytesAt_add, rdTo]
theorem rdTo_skip {M : Nat → Nat} {a C i n k r : Nat} (hi : i + n ≤ C) (ha : a + i = k * 4096 + r) (hn : r + n ≤ 4096) (hz : isZ M k) : rdTo M a C i = rdTo M a C (i + n) := by
  have e3 : bytesAt M (a + i) n = List.replicate n 0 := by
    refine (bytesAt_ext List.length_replicate fun j hj => ?_).symm
    rw [List.getElem?_replicate, if_pos hj, ha, Nat.add_assoc, hz (r + j) (by omega)]
  rw [rdTo, rdTo, bytesAt_add, e3, List.append_assoc, List.replicate_append_replicate]
  congr 2
  omega
theorem step_copy {w : World} {ops : Array Oper} {o : Oper} {a : Act} {K : Act → World → Prop} {Q : Exit → Act → World → Prop} {E : Prop} (hw : Region.wanted o (yielded ops a.tmps) = true) (d s : Operand)
    (ho : o.op = .call { callee := .builtin .copy, args := #[d, s], argTypes := #[104, 104] }) {g off dl dc so sl sc gs : Nat} (hd : a.eval d = .slice (some ⟨g, off, none⟩) dl dc) (hs : a.eval s = .slice (some ⟨gs, so, none⟩) sl sc)
    {L zs : List Nat} {t : TypeId} (hg : w.heap[g]? = some (.cells (bvs L).toArray t (0, 0))) (n : Nat) (hn : n = min zs.length dl) (hz : Sl w (.slice (some ⟨gs, so, none⟩) sl sc) zs) (hfit : off + n ≤ L.length)
    (h : ∀ w', w'.heap[g]? = some (.cells (bvs (L.take off ++ zs.take n ++ L.drop (off + n))).toArray t (0, 0)) → Keeps (fun j => j = g) w w' → K (a.put o.dst (goInt n)) w') : if Region.wanted o (yielded ops a.tmps) = true then Oper.wp Tryz.prog o a w K Q else E := by
  rw [if_pos hw]
  obtain ⟨i, hi, hz0, hz1, hz2⟩ := info_parts info_byte
  have hsz : (Tryz.prog.info? 5).map (·.size) = some 1 := by rw [hi, Option.map_some, hz1]
  obtain ⟨ao, cap, e, h1, h2, h3, h4, h5⟩ := hz
  cases e
  have hcl : (bvs (zs.take n)).length = n := by rw [bvs_length, List.length_take]; omega
  have hrun := run_copy_row (P := Tryz.prog) w 104 104 o.type 5 g off dl dc ⟨gs, so, none⟩ zs.length sc _ t (bvs (zs.take n)) Tryz.underlying104 hsz hg (by rw [hcl]; exact hn) (fun j u hj => by
      have hjl : j < n := by rw [← hcl]; exact (List.getElem?_eq_some_iff.1 hj).1
      obtain ⟨b', o'', e', hc⟩ := h5 j (by omega)
      cases e'
      rw [bvs_get _ j (by simp; omega)] at hj
      cases hj
      rw [Addr.add_lit, hc]
      simp only [List.getD_eq_getElem?_getD, List.getElem?_take_of_lt hjl]) (by rw [hcl]; simpa [bvs_length] using hfit) (bvs_one _)
  have e : ((bvs L).toArray.toList.take off ++ bvs (zs.take n) ++ (bvs L).toArray.toList.drop (off + n)) = bvs (L.take off ++ zs.take n ++ L.drop (off + n)) := by
    rw [bvs_append, bvs_append]
    show (bvs L).take off ++ bvs (zs.take n) ++ (bvs L).drop (off + n) = _
    rw [bvs, ← List.map_take, ← List.map_drop]; rfl
  rw [hcl, e] at hrun
  unfold Oper.wp execOp
  simp only [ho, resolve, invoke, builtin, Sem.run_bind, Sem.run_pure, Result.andThen_ok, List.map_toArray, List.map_cons, List.map_nil, hd, hs, hrun]
  exact h _ (setRow_heap w g _ _ t _ hg) (Keeps.setRow _ _ _)
def RowT (w : World) (t : TypeId) (g : Nat) (L : List Nat) : Prop := w.heap[g]? = some (.cells (bvs L).toArray t (0, 0))
set_option maxRecDepth 100000 in
set_option maxHeartbeats 4000000 in
theorem read_any {w : World} {B : Nat} {T : Nat → Option Nat} {M : Nat → Nat} {a g N C cap : Nat} {t : TypeId} (h : Held w B T M) (ha : a + N ≤ 4294967296) (hg : RowT w t g (List.replicate C 0)) (hf : ¬ Foot B T g) (hN : N ≤ C) (hc : N ≤ cap) (hcm : cap ≤ maxLen) :
    Calls Tryz.prog 136 #[.map (some B), .int .u64 (a : Int), .slice (some ⟨g, 0, none⟩) N cap] w fun e w' => e = .returned (.tuple #[]) ∧ RowT w' t g (rdTo M a C N) ∧ Keeps (fun j => j = g) w w' := by
  have HH : Hid (∀ W, Keeps (fun j => j = g) w W → Held W B T M) := fun W hk => h.keeps hk (fun j hj e => hf (by rw [← e]; exact hj))
  have HG : Hid (RowT w t g (rdTo M a C 0)) := by rw [rdTo_zero]; exact hg
  have hbig : cap ≤ 9223372036854775807 := by unfold maxLen at hcm; omega
  have HSm : Hid (∀ p, M p < 256) := h.2.2.2.2.1
  clear h hf hg hcm
  go_enter Tryz.func136, Tryz.ntmps136
  go_wp2_with fail
  go_loopw [1, 2] (fun x v wr => ∃ i o' m c' : Nat, i ≤ N ∧ m ≤ c' ∧ c' ≤ 9223372036854775807 ∧ x = .int .u64 ((a + i : Nat) : Int) ∧ v = .slice (some ⟨g, o', none⟩) m c' ∧ Hid (m = N - i) ∧ (0 < m → o' = i) ∧ Hid (RowT wr t g (rdTo M a C i)) ∧ Hid (Keeps (fun j => j = g) w wr)) (fun _ v _ => match v with | .slice _ m _ => m | _ => 0)
  case atStart => exact ⟨0, 0, N, cap, by omega, by omega, by omega, rfl, rfl, (rfl : _ = _), fun _ => rfl, HG, Keeps.refl _ _⟩
  case round =>
    obtain ⟨i, o', m, c', hi, hmc, hc', rfl, rfl, HM, ho, HR, HK⟩ := hrel
    by_cases hlt : 0 < m
    · obtain rfl := ho hlt
      obtain ⟨n, hn⟩ : ∃ n, n = min m (4096 - (a + o') % 4096) := ⟨_, rfl⟩
      obtain ⟨k, r, hkr, hr, hkb⟩ : ∃ k r, a + o' = k * 4096 + r ∧ r < 4096 ∧ k < 1048576 := ⟨(a + o') / 4096, (a + o') % 4096, by omega, by omega, by have := HM.out; omega⟩
      have HW : Hid (Calls Tryz.prog 73 #[.int .u64 ((a + o' : Nat) : Int), .int .i64 (m : Int)] wr fun e w' => e = .returned (.int .i64 (n : Int)) ∧ w' = wr) := by rw [hn]; exact within_any (by have := HM.out; omega) wr
      have n1 : n ≤ m := by omega
      have n2 : 0 < n := by omega
      have n3 : r + n ≤ 4096 := by omega
      have n4 : o' + n ≤ N := by have := HM.out; omega
      have hab : a + o' + n ≤ 4294967296 := by omega
      have q1 : ((a : Int) + (o' : Int)) / 4096 = (k : Int) := by omega
      have q2 : ((a : Int) + (o' : Int)) % 4096 = (r : Int) := by omega
      have q3 : ((a : Int) + (o' : Int)).tmod 4096 = (r : Int) := by rw [Int.tmod_eq_emod_of_nonneg (by omega)]; exact q2
      have n5 : n ≤ c' := by omega
      have HKr : Hid (a + o' = k * 4096 + r) := hkr
      have hHw := HH.out wr HK.out
      clear hn hkr
      cases hT : T k with
      | none =>
        have hlk := hHw.1.look_none hT (by omega)
        have HR2 : Hid (RowT wr t g (rdTo M a C (o' + n))) := by
          have := HR.out
          rw [rdTo_skip (n := n) (by omega) HKr.out n3 (hHw.2.2.1 k hT)] at this
          exact this
        clear hT hHw
        go_wp2_with (first | (go_at_call 73; refine HW.out.mono ?_; rintro e w' ⟨rfl, hw⟩; have hw := hw.symm; subst hw))
        go_region
        go_wp2_with fail
        go_roundw
        case rel => exact ⟨o' + n, if c' = n then o' else o' + n, m - n, c' - n, n4, by omega, by omega, by go_num, by split <;> rfl, (by have := HM.out; omega : m - n = N - (o' + n)), fun h0 => if_neg (by omega), HR2, HK.out.drew⟩
        case measure => simp; omega
      | some gp =>
        have hlk := hHw.1.look_some hT (by omega)
        have HP : Hid (Sl wr (.slice (some ⟨gp, r, none⟩) (4096 - r) (4096 - r)) ((pageOf M k).drop r)) := ((hHw.2.1 k gp hT).1).sl HSm.out hr
        have hslc := fun W => slice_page W gp r hr
        clear hT hHw
        go_wp2_with (first | (go_at_call 73; refine HW.out.mono ?_; rintro e w' ⟨rfl, hw⟩; have hw := hw.symm; subst hw))
        have HFit : Hid (o' + n ≤ (rdTo M a C o').length) := by show _ ≤ _; rw [rdTo_length _ _ _ _ (by omega)]; omega
        have HMin : Hid (n = min ((pageOf M k).drop r).length n) := by show n = _; rw [List.length_drop, pageOf_length]; omega
        have HSt : Hid ((rdTo M a C o').take o' ++ ((pageOf M k).drop r).take n ++ (rdTo M a C o').drop (o' + n) = rdTo M a C (o' + n)) := rdTo_copy HKr.out n3
        go_region_law (refine step_copy rfl (.tmp 26) (.tmp 31) rfl (by first | (simp [Act.eval]; done) | simp [Act.eval, Act.put]) (by first | (simp [Act.eval]; done) | simp [Act.eval, Act.put]) (g := g) (off := o') (dl := n) (dc := c') (gs := gp) (so := r) (sl := 4096 - r) (sc := 4096 - r) (zs := (pageOf M k).drop r) HR.out n HMin.out HP.out HFit.out ?_; intro w3 h3 k3; rw [HSt.out] at h3; have HR3 : Hid (RowT w3 t g (rdTo M a C (o' + n))) := h3; have HK3 : Hid (Keeps (fun j => j = g) wr.drew w3) := k3; clear h3 k3)
        go_wp2_with fail
        go_region
        go_wp2_with fail
        go_roundw
        case rel => exact ⟨o' + n, if c' = n then o' else o' + n, m - n, c' - n, n4, by omega, by omega, by go_num, by split <;> rfl, (by have := HM.out; omega : m - n = N - (o' + n)), fun h0 => if_neg (by omega), HR3, ((HK.out.drew).trans HK3.out (fun _ _ e => e)).drew⟩
        case measure => simp; omega
    · have HE : Hid (i = N) := (by have := HM.out; omega : i = N)
      go_wp2_with fail
      go_end0
      have h1 := HR.out
      rw [HE.out] at h1
      exact ⟨rfl, h1, HK.out⟩
end Go.Proofs.YtlplbbnicfeoaaaGreat
