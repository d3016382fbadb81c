import Derived.Test.YtdkhhofgfbnmkaaGreatPf39
import Derived.BigQuiet
/- The document's own Leaves. Own work. -/
namespace Go.Proofs.YtdkhhofgfbnmkaaGreat
open Go.RowKit Go.Maps Go.Proofs.YtdkhhofgfbnmkaaGreat.Sp Wk Lv
/-- what is counted -/
def Gi (Q : Nat) (t : St (List Slt)) : Prop := t.go = decide (0 < t.left) ∧ t.s.length + t.left ≤ Q
noncomputable abbrev fL (LL : List Sp) (M : Nat → Nat) : Nat → Nat → Ent × Int := fun a l => lookF LL M a (l : Int)
theorem rd8_lt {M : Nat → Nat} (hM : ∀ p, M p < 256) (a : Nat) : Pl.num 8 (rdTo M a 8 8) < 18446744073709551616 := by
  have h : Pl.acc (rdTo M a 8 8) 0 8 < 256 ^ 8 := Pl.acc_lt (rdTo_small hM a 8 8) 0 8
  rw [show (256 : Nat) ^ 8 = 18446744073709551616 from by decide] at h
  exact h
section
variable {w0 Ws : World} {base gw v : Nat} {vr vd vp : Value} {ps : List (Int × Nat)} {M : Nat → Nat} {L S X Q : Nat} {rs ds : List Sp}
theorem un_env (hv0 : w0.heap.size ≤ v) (hvs : v < Ws.heap.size) (h0 : w0.heap.size ≤ Ws.heap.size) (hg : Ws.heap.size ≤ gw) (hr : U64.SV w0 vr rs) (hd : U64.SV w0 vd ds) (hs : Sane (rs ++ ds)) (hll : rs.length + ds.length ≤ 64) (hX : X ≤ 4611686018427387904) (hQ : Q ≤ 1099511627776) :
    UnEnv (fL (rs ++ ds) M) gw v Ws.heap.size Q (fun T W => Gi Q T ∧ UI w0 Ws base gw v vr vd vp ps M L S X T W) where
  go := fun T W h => h.1.1
  len := fun T W h => h.1.2
  left := fun T W h => by
    obtain ⟨⟨_, h1⟩, _, _, _, vt, h4, _⟩ := h
    exact ⟨h4.cells.2, h4.thawed 1, by omega⟩
  set := fun T W h hl => by
    refine ⟨⟨?_, ?_⟩, h.2.left h0 hg (T.left - 1) (decide (1 < T.left))⟩
    · show decide (1 < T.left) = decide (0 < T.left - 1)
      rw [decide_eq_decide]
      omega
    · have := h.1.2
      show T.s.length + (T.left - 1) ≤ Q
      omega
  below := fun T W W' h hb => ⟨h.1, h.2.below hb⟩
  look := fun T W a ha h => by
    refine (rpk_any h.2.2.2.1 (hr.below h.2.1 (Nat.le_refl _)) (hd.below h.2.1 (Nat.le_refl _)) hs hll ha hX).mono ?_
    rintro e w' ⟨x, b, h1, rfl, h3, h4⟩
    have hM := h3.2.2.2.2.2.2.1
    refine ⟨if b then 0 else Pl.num 8 (rdTo M a 8 8), !b, ?_, ?_, ?_, ?_, h.1, h.2.kv hv0 hvs hg h4 h3⟩
    · cases b <;> rfl
    · cases b
      · exact rd8_lt hM a
      · exact Nat.zero_lt_succ _
    · intro hb l hl
      cases b
      · show lookF _ _ _ _ = entB _ _
        unfold lookF
        rw [if_pos (h1.2 rfl).2]
        rfl
      · cases hb
    · intro hb l hl
      cases b
      · cases hb
      · obtain ⟨i, hi, _, _, hn, _⟩ := h1.1 rfl
        show lookF _ _ _ _ = _
        unfold lookF
        rw [if_neg (fun h => hn (h i hi))]
  row := fun T W h => by
    obtain ⟨⟨_, hq⟩, _, hk, _, vt, h4, h5⟩ := h
    exact ⟨vt, h4.cells.1, h5, hk.size, by omega⟩
  told := fun T W W1 W2 vt v2 x h hq hb hc ho hgr => by
    obtain ⟨h1, h2, h3⟩ := h.2.told h0 hg hb hc ho hgr
    refine ⟨⟨⟨h.1.1, ?_⟩, h1⟩, h2, h3⟩
    show (T.s ++ [x]).length + T.left ≤ Q
    rw [List.length_append, List.length_singleton]
    omega
/-- under, from the last level up -/
theorem under_all {U : St (List Slt) → World → Prop} {f : Nat → Nat → Ent × Int} (E : UnEnv f gw v base Q U) {root : Nat} (hroot : root + 4096 ≤ 18446744073709551616) {t : St (List Slt)} {W : World} (hU : U t W) :
    Calls Tryz.prog 77 #[.pointer (some ⟨gw, 0, none⟩), .pointer (some ⟨v, 0, none⟩), .int .u64 (root : Int), .int .i64 0, .int .u64 0] W fun e w' => e = .returned (.tuple #[]) ∧ U (allS (lkL f) ydL ctL root t) w' := by
  have hen : ∀ (e : Nat), e < 18446744073709551616 → ∀ l w, Calls Tryz.prog 46 #[.int .u64 (e : Int), .int .i64 l] w (EntPost w (entB e l)) := fun e he l w => refEntry_any he l w
  have u2 : ∀ (a b : Nat) T W, a + 4096 ≤ 18446744073709551616 → b + 4096 * 512 ≤ 549755813888 → U T W → Calls Tryz.prog 77 #[.pointer (some ⟨gw, 0, none⟩), .pointer (some ⟨v, 0, none⟩), .int .u64 (a : Int), .int .i64 (((1 : Nat) : Int) + 1), .int .u64 (b : Int)] W fun e w' => e = .returned (.tuple #[]) ∧ U (deep2 (lkL f) ydL ctL a b 2 T) w' := fun a b T W ha hb h =>
    under_any E (lv := 2) (ea := 1) (deep := deep3) (.inr (.inr ⟨rfl, rfl⟩)) ha (by omega) h hen (fun h => absurd h (by omega))
  have u1 : ∀ (a b : Nat) T W, a + 4096 ≤ 18446744073709551616 → b + 4096 * 262144 ≤ 549755813888 → U T W → Calls Tryz.prog 77 #[.pointer (some ⟨gw, 0, none⟩), .pointer (some ⟨v, 0, none⟩), .int .u64 (a : Int), .int .i64 (((0 : Nat) : Int) + 1), .int .u64 (b : Int)] W fun e w' => e = .returned (.tuple #[]) ∧ U (deep1 (lkL f) ydL ctL a b 1 T) w' := fun a b T W ha hb h =>
    under_any E (lv := 1) (ea := 512) (deep := deep2 (lkL f) ydL ctL) (.inr (.inl ⟨rfl, rfl⟩)) ha (by omega) h hen (fun _ => u2)
  exact under_any E (lv := 0) (ea := 262144) (virt := 0) (deep := deep1 (lkL f) ydL ctL) (.inl ⟨rfl, rfl⟩) hroot (by omega) hU hen (fun _ => u1)
end
/-- what the document's Leaves answers -/
def RLvP (w : World) (base v : Nat) (vr vd vp : Value) (ps : List (Int × Nat)) (M : Nat → Nat) (LL : List Sp) (L S X root most : Nat) (e : Ending) (w' : World) : Prop :=
  ∃ vt b, e = .returned (.tuple #[vt, .bool b]) ∧ (root % 4096 = 0 → b = (allS (lkL (fL LL M)) ydL ctL root { s := [], left := most, go := true }).go) ∧ (root % 4096 ≠ 0 → b = true) ∧ RM w' base v vr vd vp ps M L S X ∧ Keeps (fun j => j = v) w w'
set_option maxRecDepth 100000 in
set_option maxHeartbeats 2000000 in
theorem rleaves_at {w0 w : World} {base v : Nat} {vr vd vp : Value} {ps : List (Int × Nat)} {M : Nat → Nat} {L S X : Nat} {rs ds : List Sp} {root most : Nat} (h : RM w base v vr vd vp ps M L S X) (hb0 : Below w0.heap.size w0 w) (hv0 : w0.heap.size ≤ v) (hvs : v < w.heap.size) (hr : U64.SV w0 vr rs) (hd : U64.SV w0 vd ds) (hs : Sane (rs ++ ds)) (hll : rs.length + ds.length ≤ 64) (hX : X ≤ 4611686018427387904) (h1 : 1 ≤ most) (hQ : most ≤ 1099511627776) (hrt : root ≤ 18446744073709551615) :
    Calls Tryz.prog 52 #[.pointer (some ⟨v, 0, none⟩), .int .u64 (root : Int), .int .i64 (most : Int)] w (RLvP w base v vr vd vp ps M (rs ++ ds) L S X root most) := by
  have hm1 : ¬ (most : Int) < 1 := by omega
  by_cases hroot : root % 4096 = 0
  · have hi : (root : Int) % 4096 = 0 := by omega
    have hit : (root : Int).tmod 4096 = 0 := by rw [Int.tmod_eq_emod_of_nonneg (by omega)]; exact hi
    have E := un_env (Ws := w) (gw := w.heap.size) (base := base) (vp := vp) (ps := ps) (M := M) (L := L) (S := S) (Q := most) hv0 hvs hb0.size (Nat.le_refl _) hr hd hs hll hX hQ
    have hU : Gi most { s := [], left := most, go := true } ∧ UI w0 w base w.heap.size v vr vd vp ps M L S X { s := [], left := most, go := true } (w.alloc (Obj.cells #[.slice none 0 0, .int .i64 (most : Int)] 149)) := by
      have hb : Below w.heap.size w (w.alloc (Obj.cells #[.slice none 0 0, .int .i64 (most : Int)] 149)) := (Below.refl _ _).alloc (Nat.le_refl _) _
      refine ⟨⟨(decide_eq_true (by omega : 0 < most)).symm, by show 0 + most ≤ most; omega⟩, hb0.trans (hb.mono hb0.size), Keeps.of_below hb, h.below hb, .slice none 0 0, heap_alloc_new w _, World.ownsRow_nil _ _ _ _⟩
    have HC := Lib.hid (under_all E (root := root) (by omega) hU)
    have HR := Lib.hid h
    clear E hU h hr hd hs hll hb0
    go_enter Tryz.func52, Tryz.ntmps52
    go_wp2_with fail
    refine HC.out.mono ?_
    rintro e w1 ⟨rfl, hg, hu⟩
    clear HC
    obtain ⟨T, hT⟩ : ∃ T, T = allS (lkL (fL (rs ++ ds) M)) ydL ctL root { s := [], left := most, go := true } := ⟨_, rfl⟩
    rw [← hT] at hg hu
    obtain ⟨_, hk, hm, vt, hw, _⟩ := hu
    obtain ⟨c0, c1⟩ := hw.cells
    have hgo := hg.1
    have hlen := hg.2
    have HT := Lib.hid hT
    have HK := Lib.hid hk
    have HM := Lib.hid hm
    clear hg hT hk hm
    have hbb : decide ((T.left : Int) > 0) = T.go := by
      rw [hgo, decide_eq_decide]
      omega
    go_wp2_with fail
    go_region
    all_goals
      go_wp2_with fail
      go_ret2
      exact ⟨vt, decide (0 < T.left), rfl, fun _ => by rw [← hgo, ← HT.out], fun h => absurd hroot h, HM.out, HK.out.drew⟩
  · have hi : (root : Int) % 4096 > 0 := by omega
    have hit : (root : Int).tmod 4096 > 0 := by rw [Int.tmod_eq_emod_of_nonneg (by omega)]; exact hi
    have HR := Lib.hid h
    clear h hr hd hs hll hb0
    go_enter Tryz.func52, Tryz.ntmps52
    go_wp2_with fail
    go_ret2
    exact ⟨_, true, rfl, fun h => absurd h hroot, fun _ => rfl, HR.out.below ((Below.refl _ w).alloc (Nat.le_refl _) _), Keeps.of_below ((Below.refl _ w).alloc (Nat.le_refl _) _)⟩
end Go.Proofs.YtdkhhofgfbnmkaaGreat
/- The document's own Translate. Own work. -/
namespace Go.Proofs.YtdkhhofgfbnmkaaGreat
open Go.RowKit Go.Maps Go.Proofs.YtdkhhofgfbnmkaaGreat.Sp Wk Lv
set_option maxRecDepth 100000 in
set_option maxHeartbeats 2000000 in
/-- which entry of a level's table a virtual address tells -/
theorem rindex_any {virt lv : Nat} (hl : lv ≤ 2) (hv : virt ≤ 18446744073709551615) (w : World) : Calls Tryz.prog 45 #[.int .u64 (virt : Int), .int .i64 (lv : Int)] w fun e w' => e = .returned (.int .u64 ((virt / rch lv % 512 : Nat) : Int)) ∧ w' = w := by
  rcases (by omega : lv = 0 ∨ lv = 1 ∨ lv = 2) with rfl | rfl | rfl
  all_goals
    go_enter Tryz.func45, Tryz.ntmps45
    go_wp2_with fail
    go_ret
    refine ⟨?_, rfl⟩
  · show Ending.returned (Value.int .u64 ((virt : Int) / 1073741824 % 512)) = Ending.returned (Value.int .u64 ((virt / 1073741824 % 512 : Nat) : Int))
    congr 2
  · show Ending.returned (Value.int .u64 ((virt : Int) / 2097152 % 512)) = Ending.returned (Value.int .u64 ((virt / 2097152 % 512 : Nat) : Int))
    congr 2
  · show Ending.returned (Value.int .u64 ((virt : Int) / 4096 % 512)) = Ending.returned (Value.int .u64 ((virt / 4096 % 512 : Nat) : Int))
    congr 2
/-- where the document's Translate stands -/
def TrR (LL : List Sp) (M : Nat → Nat) (root virt : Nat) (acc : Int) (lv : Nat) (no : Int) (x : Ent) : Prop :=
  (no = 0 ∧ x.2.1 = true ∧ lv ≤ 2 ∧ x.1 + 4096 ≤ 18446744073709551616 ∧ adrF LL M root virt acc = addrB (leafF LL M virt (3 - lv) lv x.1) acc virt) ∨
  (no = 0 ∧ x.2.1 = false ∧ x.1 ≤ 4294963200 ∧ adrF LL M root virt acc = addrB (x, 0) acc virt) ∨
  (no ≠ 0 ∧ adrF LL M root virt acc = (0, no))
theorem addr_bad {r : Ent × Int} {acc : Int} {v : Nat} (h : r.2 ≠ 0) : addrB r acc v = (0, r.2) := by
  unfold addrB
  rw [if_pos h]
theorem trr_next {LL : List Sp} {M : Nat → Nat} {root virt lv : Nat} {acc : Int} {x : Ent} (h : adrF LL M root virt acc = addrB (leafF LL M virt (3 - lv) lv x.1) acc virt) (hl : lv ≤ 2) {y : Ent} {k : Int} (hk : lookF LL M (x.1 + 8 * (virt / rch lv % 512)) (lv : Int) = (y, k)) : TrR LL M root virt acc (lv + 1) k y := by
  obtain ⟨n, hn⟩ : ∃ n, 3 - lv = n + 1 := ⟨2 - lv, by omega⟩
  have hL : leafF LL M virt (n + 1) lv x.1 = if k ≠ 0 ∨ y.2.1 = false then (y, k) else leafF LL M virt n (lv + 1) y.1 := by
    rw [leafF, rchP hl, hk]
  rw [hn, hL] at h
  have ho := look_ok LL M (x.1 + 8 * (virt / rch lv % 512)) hl
  rw [hk] at ho
  by_cases h0 : k = 0
  · subst h0
    cases ht : y.2.1 with
    | false =>
      rw [if_pos (.inr ht)] at h
      exact .inr (.inl ⟨rfl, ht, ho.2.2.1, h⟩)
    | true =>
      have hl2 : lv < 2 := by
        by_cases e : lv = 2
        · have := ho.2.2.2.2.2 e
          rw [show ((y, (0 : Int)) : Ent × Int).1.2.1 = y.2.1 from rfl, ht] at this
          cases this
        · omega
      rw [if_neg (by rw [ht]; simp)] at h
      have := ho.2.2.1
      refine .inl ⟨rfl, ht, by omega, by have : y.1 ≤ 4294963200 := this; omega, ?_⟩
      rw [show 3 - (lv + 1) = n from by omega]
      exact h
  · rw [if_pos (.inl h0), addr_bad h0] at h
    exact .inr (.inr ⟨h0, h⟩)
theorem trr_start (LL : List Sp) (M : Nat → Nat) {root virt : Nat} {acc : Int} (h1 : acc = 1 ∨ acc = 2 ∨ acc = 3) (h2 : virt < 549755813888) (h3 : root % 4096 = 0) (h4 : root ≤ 18446744073709551615) : TrR LL M root virt acc 0 0 (root, true, false, false, false) := by
  refine .inl ⟨rfl, rfl, by omega, by show root + 4096 ≤ _; omega, ?_⟩
  unfold adrF
  rw [if_neg (by omega), if_neg (by omega), if_neg (by omega)]
end Go.Proofs.YtdkhhofgfbnmkaaGreat
