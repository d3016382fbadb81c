import Derived.Test.YtfnikcjcgneboaaGreatPk43
import Derived.Test.YtfnikcjcgneboaaGreatPk26
import Derived.Test.YtfnikcjcgneboaaGreatPk40
import Derived.Test.YtfnikcjcgneboaaGreatPk25
/- The document's own Leaves. Own work. -/
namespace Go.Proofs.YtfnikcjcgneboaaGreat
open Go.RowKit Go.Maps Go.Proofs.YtfnikcjcgneboaaGreat.Sp Wk Lv
/-- what is counted -/
def Gi (Q : Nat) (t : St (List Slt)) : Prop := t.go = decide (0 < t.left) ∧ t.s.length + t.left ≤ Q
noncomputable abbrev fL (LL : List Sp) (M : Nat → Nat) : Nat → Nat → Ent × Int := fun a l => lookF LL M a (l : Int)
theorem rd8_lt {M : Nat → Nat} (hM : ∀ p, M p < 256) (a : Nat) : Pl.num 8 (rdTo M a 8 8) < 18446744073709551616 := by
  have h : Pl.acc (rdTo M a 8 8) 0 8 < 256 ^ 8 := Pl.acc_lt (rdTo_small hM a 8 8) 0 8
  rw [show (256 : Nat) ^ 8 = 18446744073709551616 from by decide] at h
  exact h
section
variable {w0 Ws : World} {base gw v : Nat} {vr vd vp : Value} {ps : List (Int × Nat)} {M : Nat → Nat} {L S X Q : Nat} {rs ds : List Sp}
theorem un_env (hv0 : w0.heap.size ≤ v) (hvs : v < Ws.heap.size) (h0 : w0.heap.size ≤ Ws.heap.size) (hg : Ws.heap.size ≤ gw) (hr : U64.SV w0 vr rs) (hd : U64.SV w0 vd ds) (hs : Sane (rs ++ ds)) (hll : rs.length + ds.length ≤ 64) (hX : X ≤ 4611686018427387904) (hQ : Q ≤ 1099511627776) :
    UnEnv (fL (rs ++ ds) M) gw v Ws.heap.size Q (fun T W => Gi Q T ∧ UI w0 Ws base gw v vr vd vp ps M L S X T W) where
  go := fun T W h => h.1.1
  len := fun T W h => h.1.2
  left := fun T W h => by
    obtain ⟨⟨_, h1⟩, _, _, _, vt, h4, _⟩ := h
    exact ⟨h4.cells.2, h4.thawed 1, by omega⟩
  set := fun T W h hl => by
    refine ⟨⟨?_, ?_⟩, h.2.left h0 hg (T.left - 1) (decide (1 < T.left))⟩
    · show decide (1 < T.left) = decide (0 < T.left - 1)
      rw [decide_eq_decide]
      omega
    · have := h.1.2
      show T.s.length + (T.left - 1) ≤ Q
      omega
  below := fun T W W' h hb => ⟨h.1, h.2.below hb⟩
  look := fun T W a ha h => by
    refine (rpk_any h.2.2.2.1 (hr.below h.2.1 (Nat.le_refl _)) (hd.below h.2.1 (Nat.le_refl _)) hs hll ha hX).mono ?_
    rintro e w' ⟨x, b, h1, rfl, h3, h4⟩
    have hM := h3.2.2.2.2.2.2.1
    refine ⟨if b then 0 else Pl.num 8 (rdTo M a 8 8), !b, ?_, ?_, ?_, ?_, h.1, h.2.kv hv0 hvs hg h4 h3⟩
    · cases b <;> rfl
    · cases b
      · exact rd8_lt hM a
      · exact Nat.zero_lt_succ _
    · intro hb l hl
      cases b
      · show lookF _ _ _ _ = entB _ _
        unfold lookF
        rw [if_pos (h1.2 rfl).2]
        rfl
      · cases hb
    · intro hb l hl
      cases b
      · cases hb
      · obtain ⟨i, hi, _, _, hn, _⟩ := h1.1 rfl
        show lookF _ _ _ _ = _
        unfold lookF
        rw [if_neg (fun h => hn (h i hi))]
  row := fun T W h => by
    obtain ⟨⟨_, hq⟩, _, hk, _, vt, h4, h5⟩ := h
    exact ⟨vt, h4.cells.1, h5, hk.size, by omega⟩
  told := fun T W W1 W2 vt v2 x h hq hb hc ho hgr => by
    obtain ⟨h1, h2, h3⟩ := h.2.told h0 hg hb hc ho hgr
    refine ⟨⟨⟨h.1.1, ?_⟩, h1⟩, h2, h3⟩
    show (T.s ++ [x]).length + T.left ≤ Q
    rw [List.length_append, List.length_singleton]
    omega
/-- under, from the last level up -/
theorem under_all {U : St (List Slt) → World → Prop} {f : Nat → Nat → Ent × Int} (E : UnEnv f gw v base Q U) {root : Nat} (hroot : root + 4096 ≤ 18446744073709551616) {t : St (List Slt)} {W : World} (hU : U t W) :
    Calls Tryz.prog 39 #[.pointer (some ⟨gw, 0, none⟩), .pointer (some ⟨v, 0, none⟩), .int .u64 (root : Int), .int .i64 0, .int .u64 0] W fun e w' => e = .returned (.tuple #[]) ∧ U (allS (lkL f) ydL ctL root t) w' := by
  have hen : ∀ (e : Nat), e < 18446744073709551616 → ∀ l w, Calls Tryz.prog 56 #[.int .u64 (e : Int), .int .i64 l] w (EntPost w (entB e l)) := fun e he l w => refEntry_any he l w
  have u2 : ∀ (a b : Nat) T W, a + 4096 ≤ 18446744073709551616 → b + 4096 * 512 ≤ 549755813888 → U T W → Calls Tryz.prog 39 #[.pointer (some ⟨gw, 0, none⟩), .pointer (some ⟨v, 0, none⟩), .int .u64 (a : Int), .int .i64 (((1 : Nat) : Int) + 1), .int .u64 (b : Int)] W fun e w' => e = .returned (.tuple #[]) ∧ U (deep2 (lkL f) ydL ctL a b 2 T) w' := fun a b T W ha hb h =>
    under_any E (lv := 2) (ea := 1) (deep := deep3) (.inr (.inr ⟨rfl, rfl⟩)) ha (by omega) h hen (fun h => absurd h (by omega))
  have u1 : ∀ (a b : Nat) T W, a + 4096 ≤ 18446744073709551616 → b + 4096 * 262144 ≤ 549755813888 → U T W → Calls Tryz.prog 39 #[.pointer (some ⟨gw, 0, none⟩), .pointer (some ⟨v, 0, none⟩), .int .u64 (a : Int), .int .i64 (((0 : Nat) : Int) + 1), .int .u64 (b : Int)] W fun e w' => e = .returned (.tuple #[]) ∧ U (deep1 (lkL f) ydL ctL a b 1 T) w' := fun a b T W ha hb h =>
    under_any E (lv := 1) (ea := 512) (deep := deep2 (lkL f) ydL ctL) (.inr (.inl ⟨rfl, rfl⟩)) ha (by omega) h hen (fun _ => u2)
  exact under_any E (lv := 0) (ea := 262144) (virt := 0) (deep := deep1 (lkL f) ydL ctL) (.inl ⟨rfl, rfl⟩) hroot (by omega) hU hen (fun _ => u1)
end
/-- what the document's Leaves answers -/
def RLvP (w : World) (base v : Nat) (vr vd vp : Value) (ps : List (Int × Nat)) (M : Nat → Nat) (LL : List Sp) (L S X root most : Nat) (e : Ending) (w' : World) : Prop :=
  ∃ vt b, e = .returned (.tuple #[vt, .bool b]) ∧ (root % 4096 = 0 → b = (allS (lkL (fL LL M)) ydL ctL root { s := [], left := most, go := true }).go) ∧ (root % 4096 ≠ 0 → b = true) ∧ RM w' base v vr vd vp ps M L S X ∧ Keeps (fun j => j = v) w w'
set_option maxRecDepth 100000 in
set_option maxHeartbeats 2000000 in
theorem rleaves_at {w0 w : World} {base v : Nat} {vr vd vp : Value} {ps : List (Int × Nat)} {M : Nat → Nat} {L S X : Nat} {rs ds : List Sp} {root most : Nat} (h : RM w base v vr vd vp ps M L S X) (hb0 : Below w0.heap.size w0 w) (hv0 : w0.heap.size ≤ v) (hvs : v < w.heap.size) (hr : U64.SV w0 vr rs) (hd : U64.SV w0 vd ds) (hs : Sane (rs ++ ds)) (hll : rs.length + ds.length ≤ 64) (hX : X ≤ 4611686018427387904) (h1 : 1 ≤ most) (hQ : most ≤ 1099511627776) (hrt : root ≤ 18446744073709551615) :
    Calls Tryz.prog 14 #[.pointer (some ⟨v, 0, none⟩), .int .u64 (root : Int), .int .i64 (most : Int)] w (RLvP w base v vr vd vp ps M (rs ++ ds) L S X root most) := by
  have hm1 : ¬ (most : Int) < 1 := by omega
  by_cases hroot : root % 4096 = 0
  · have hi : (root : Int) % 4096 = 0 := by omega
    have hit : (root : Int).tmod 4096 = 0 := by rw [Int.tmod_eq_emod_of_nonneg (by omega)]; exact hi
    have E := un_env (Ws := w) (gw := w.heap.size) (base := base) (vp := vp) (ps := ps) (M := M) (L := L) (S := S) (Q := most) hv0 hvs hb0.size (Nat.le_refl _) hr hd hs hll hX hQ
    have hU : Gi most { s := [], left := most, go := true } ∧ UI w0 w base w.heap.size v vr vd vp ps M L S X { s := [], left := most, go := true } (w.alloc (Obj.cells #[.slice none 0 0, .int .i64 (most : Int)] 108)) := by
      have hb : Below w.heap.size w (w.alloc (Obj.cells #[.slice none 0 0, .int .i64 (most : Int)] 108)) := (Below.refl _ _).alloc (Nat.le_refl _) _
      refine ⟨⟨(decide_eq_true (by omega : 0 < most)).symm, by show 0 + most ≤ most; omega⟩, hb0.trans (hb.mono hb0.size), Keeps.of_below hb, h.below hb, .slice none 0 0, heap_alloc_new w _, World.ownsRow_nil _ _ _ _⟩
    have HC := Lib.hid (under_all E (root := root) (by omega) hU)
    have HR := Lib.hid h
    clear E hU h hr hd hs hll hb0
    go_enter Tryz.func14, Tryz.ntmps14
    go_wp2_with fail
    refine HC.out.mono ?_
    rintro e w1 ⟨rfl, hg, hu⟩
    clear HC
    obtain ⟨T, hT⟩ : ∃ T, T = allS (lkL (fL (rs ++ ds) M)) ydL ctL root { s := [], left := most, go := true } := ⟨_, rfl⟩
    rw [← hT] at hg hu
    obtain ⟨_, hk, hm, vt, hw, _⟩ := hu
    obtain ⟨c0, c1⟩ := hw.cells
    have hgo := hg.1
    have hlen := hg.2
    have HT := Lib.hid hT
    have HK := Lib.hid hk
    have HM := Lib.hid hm
    clear hg hT hk hm
    have hbb : decide ((T.left : Int) > 0) = T.go := by
      rw [hgo, decide_eq_decide]
      omega
    go_wp2_with fail
    go_region
    all_goals
      go_wp2_with fail
      go_ret2
      exact ⟨vt, decide (0 < T.left), rfl, fun _ => by rw [← hgo, ← HT.out], fun h => absurd hroot h, HM.out, HK.out.drew⟩
  · have hi : (root : Int) % 4096 > 0 := by omega
    have hit : (root : Int).tmod 4096 > 0 := by rw [Int.tmod_eq_emod_of_nonneg (by omega)]; exact hi
    have HR := Lib.hid h
    clear h hr hd hs hll hb0
    go_enter Tryz.func14, Tryz.ntmps14
    go_wp2_with fail
    go_ret2
    exact ⟨_, true, rfl, fun h => absurd h hroot, fun _ => rfl, HR.out.below ((Below.refl _ w).alloc (Nat.le_refl _) _), Keeps.of_below ((Below.refl _ w).alloc (Nat.le_refl _) _)⟩
end Go.Proofs.YtfnikcjcgneboaaGreat
/- WalkLeaves: what was told, as the law asks it. Plain mathematics. Own work. -/
namespace Go.Proofs.YtfnikcjcgneboaaGreat
open Go.RowKit Go.Maps Go.Proofs.YtfnikcjcgneboaaGreat.Sp Wk Lv
/-- what was told, as the law asks it -/
structure GL (LL : List Sp) (M : Nat → Nat) (root : Nat) (l : List Lf) : Prop where
  fit : ∀ x ∈ l, x.1 + 4096 * x.2.2.1 ≤ 549755813888 ∧ 1 ≤ x.2.2.1 ∧ x.2.1 ≤ 4294967295
  ord : l.Pairwise (fun x y => x.1 + 4096 * x.2.2.1 ≤ y.1)
  inn : ∀ x ∈ l, ∀ a, x.1 ≤ a → a < x.1 + 4096 * x.2.2.1 → MpR LL M root x.1 x.2.1 a x.2.2.2.2.1 x.2.2.2.2.2.1 x.2.2.2.2.2.2
  out : ∀ a, a < 549755813888 → (∀ x ∈ l, ¬ (x.1 ≤ a ∧ a < x.1 + 4096 * x.2.2.1)) → adrF LL M root a 1 = (0, 41)
  len : l.length ≤ 3000
theorem gl_bad {LL : List Sp} {M : Nat → Nat} {root : Nat} (hr : root % 4096 ≠ 0) : GL LL M root [(0, 0, 134217728, false, false, false, 42)] where
  fit := fun x hx => by
    obtain rfl := List.mem_singleton.1 hx
    decide
  ord := List.pairwise_singleton _ _
  inn := fun x hx a h1 h2 => by
    obtain rfl := List.mem_singleton.1 hx
    refine .inl ⟨by decide, fun acc ha => ?_⟩
    have h2 : a < 0 + 4096 * 134217728 := h2
    unfold adrF
    rw [if_neg (by omega), if_neg (by omega), if_pos (by omega)]
  out := fun a ha h => absurd ⟨Nat.zero_le _, by show a < 0 + 4096 * 134217728; omega⟩ (h _ (List.mem_singleton.2 rfl))
  len := by decide
theorem gl_good {LL : List Sp} {M : Nat → Nat} {root : Nat} {l : List Slt} (h : Tells LL M root l) (hr : root % 4096 = 0) (hl : l.length ≤ 3000) : GL LL M root (l.map lfOf) := by
  have hreach : ∀ x ∈ l, 4096 * (lfOf x).2.2.1 = rch x.2.1 := fun x hx => rchP (h.inn x hx).2.2.1
  refine ⟨fun y hy => ?_, ?_, fun y hy a h1 h2 => ?_, fun a ha hn => ?_, by rw [List.length_map]; exact hl⟩
  · obtain ⟨x, hx, rfl⟩ := List.mem_map.1 hy
    have hi := h.inn x hx
    have he := hreach x hx
    refine ⟨by rw [he]; exact hi.2.1, ?_, ?_⟩
    · have := rch_pos x.2.1
      omega
    · have := hi.2.2.2.2.2.2.2.2.1
      show x.2.2.1.1 ≤ _
      omega
  · rw [List.pairwise_map]
    refine h.ord.imp_of_mem (fun {x y} hx hy hxy => ?_)
    rw [hreach x hx]
    exact hxy
  · obtain ⟨x, hx, rfl⟩ := List.mem_map.1 hy
    rw [hreach x hx] at h2
    have h1 : x.1 ≤ a := h1
    have h2 : a < x.1 + rch x.2.1 := h2
    by_cases hw : x.2.2.2 = 0
    · refine .inr ⟨hw, ?_, ?_, ?_⟩
      · rw [tells_at h hr hx h1 h2 hw (.inl rfl), if_neg (by omega), if_neg (by omega)]
        rfl
      · rw [tells_at h hr hx h1 h2 hw (.inr (.inl rfl))]
        show _ = if x.2.2.1.2.2.2.1 = true then _ else _
        cases hc : x.2.2.1.2.2.2.1 with
        | true => rw [if_neg (by simp), if_neg (by omega), if_pos rfl]; rfl
        | false => rw [if_pos ⟨rfl, rfl⟩, if_neg (by decide)]
      · rw [tells_at h hr hx h1 h2 hw (.inr (.inr rfl))]
        show _ = if x.2.2.1.2.2.2.2 = true then _ else _
        cases hc : x.2.2.1.2.2.2.2 with
        | true => rw [if_neg (by omega), if_neg (by simp), if_pos rfl]; rfl
        | false => rw [if_neg (by omega), if_pos ⟨rfl, rfl⟩, if_neg (by decide)]
    · exact .inl ⟨hw, fun acc ha => tells_bad h hr hx h1 h2 hw ha⟩
  · refine tells_none h hr ha (fun x hx hh => ?_) (.inl rfl)
    refine hn (lfOf x) (List.mem_map.2 ⟨x, hx, rfl⟩) ?_
    rw [hreach x hx]
    exact hh
/-- Leaves' machine that counts its looks -/
def lkC (f : Nat → Nat → Ent × Int) (s : Nat × List Slt) (fr i lev : Nat) : (Ent × Int) × (Nat × List Slt) := (f (fr + 8 * i) lev, (s.1 + 1, s.2))
def ydC (s : Nat × List Slt) (x : Slt) : Nat × List Slt := (s.1, s.2 ++ [x])
def ctC (_ : Nat × List Slt) (_ : Slt) : Bool := true
def pj (t : St (Nat × List Slt)) : St (List Slt) := { s := t.s.2, left := t.left, go := t.go }
theorem visit_pj (t : St (Nat × List Slt)) (x : Slt) : pj (visitS ydC ctC t x) = visitS ydL ctL (pj t) x := by
  unfold visitS
  split <;> rfl
theorem aft_pj {dC : Nat → Nat → Nat → St (Nat × List Slt) → St (Nat × List Slt)} {dL : Nat → Nat → Nat → St (List Slt) → St (List Slt)} (hd : ∀ a b c t, pj (dC a b c t) = dL a b c (pj t)) (t : St (Nat × List Slt)) (y : Slt) : pj (aft ydC ctC dC t y) = aft ydL ctL dL (pj t) y := by
  have hv := visit_pj t y
  have hg : (visitS ydC ctC t y).go = (visitS ydL ctL (pj t) y).go := by rw [← hv]; rfl
  unfold aft
  rw [← hg]
  split
  · rw [hd, hv]
  · exact hv
theorem step_pj {f : Nat → Nat → Ent × Int} {dC : Nat → Nat → Nat → St (Nat × List Slt) → St (Nat × List Slt)} {dL : Nat → Nat → Nat → St (List Slt) → St (List Slt)} (hd : ∀ a b c t, pj (dC a b c t) = dL a b c (pj t)) (fr virt lev i : Nat) (t : St (Nat × List Slt)) : pj (stepS (lkC f) ydC ctC dC fr virt lev i t) = stepS (lkL f) ydL ctL dL fr virt lev i (pj t) := by
  by_cases h41 : (f (fr + 8 * i) lev).2 = 41
  · rw [step_absent (lk := lkC f) h41, step_absent (lk := lkL f) h41]
    rfl
  · rw [step_aft (lk := lkC f) h41, step_aft (lk := lkL f) h41, aft_pj hd]
    rfl
theorem tab_pj {f : Nat → Nat → Ent × Int} {dC : Nat → Nat → Nat → St (Nat × List Slt) → St (Nat × List Slt)} {dL : Nat → Nat → Nat → St (List Slt) → St (List Slt)} (hd : ∀ a b c t, pj (dC a b c t) = dL a b c (pj t)) (fr virt lev : Nat) (t : St (Nat × List Slt)) : ∀ i, pj (tabN (lkC f) ydC ctC dC fr virt lev i t) = tabN (lkL f) ydL ctL dL fr virt lev i (pj t)
  | 0 => rfl
  | i + 1 => by
    have ih := tab_pj (f := f) hd fr virt lev t i
    have hg : (tabN (lkC f) ydC ctC dC fr virt lev i t).go = (tabN (lkL f) ydL ctL dL fr virt lev i (pj t)).go := by rw [← ih]; rfl
    rw [tabN, tabN, ← hg]
    split
    · rw [step_pj (f := f) hd, ih]
    · exact ih
theorem all_pj (f : Nat → Nat → Ent × Int) (root : Nat) (t : St (Nat × List Slt)) : pj (allS (lkC f) ydC ctC root t) = allS (lkL f) ydL ctL root (pj t) :=
  tab_pj (fun a b c t => tab_pj (fun a b c t => tab_pj (fun _ _ _ _ => rfl) a b c t 512) a b c t 512) root 0 0 t 512
theorem livesC (f : Nat → Nat → Ent × Int) : LivesR (lkC f) ydC ctC (fun _ => True) (fun s => s.2.length) :=
  ⟨fun _ _ _ _ _ => trivial, fun _ _ _ _ => trivial, fun _ _ _ _ => Nat.le_refl _, fun s x => by show (s.2 ++ [x]).length ≤ _; simp⟩
theorem all_tab {σ : Type} (lk : σ → Nat → Nat → Nat → (Ent × Int) × σ) (yd : σ → Slt → σ) (ct : σ → Slt → Bool) (root : Nat) (t : St σ) : tabN lk yd ct (deep1 lk yd ct) root 0 0 512 t = allS lk yd ct root t := by unfold allS; rfl
theorem all_len (f : Nat → Nat → Ent × Int) (root : Nat) : (allS (lkL f) ydL ctL root { s := [], left := 3000, go := true }).s.length ≤ 3000 := by
  have h := all_pj f root { s := (0, []), left := 3000, go := true }
  have hf := tab_finer (livesC f) (finer1 (livesC f)) root 0 0 (L := 3000) (t := { s := (0, []), left := 3000, go := true }) ⟨fun _ => by show 1 ≤ 3000; omega, by show 0 + 3000 ≤ 3000; omega, fun _ => trivial⟩ 512
  have e : (allS (lkL f) ydL ctL root { s := [], left := 3000, go := true }).s = (allS (lkC f) ydC ctC root { s := (0, []), left := 3000, go := true }).s.2 := by
    have h' := congrArg St.s h
    generalize allS (lkC f) ydC ctC root { s := (0, []), left := 3000, go := true } = Tf at h' ⊢
    exact h'.symm
  rw [e]
  have hm := hf.most
  rw [all_tab] at hm
  generalize allS (lkC f) ydC ctC root { s := (0, []), left := 3000, go := true } = Tf at hm ⊢
  have hm : Tf.s.2.length + Tf.left ≤ 3000 := hm
  omega
theorem all_cnt (f : Nat → Nat → Ent × Int) (root : Nat) : (allS (lkC f) ydC ctC root { s := (0, []), left := 3000, go := true }).s.1 ≤ 134480384 := by
  have hl : ∀ (s : Nat × List Slt) (a b c : Nat), (lkC f s a b c).2.1 ≤ s.1 + 1 := fun _ _ _ _ => Nat.le_refl _
  have hy : ∀ (s : Nat × List Slt) (x : Slt), (ydC s x).1 ≤ s.1 := fun _ _ => Nat.le_refl _
  have := cnt_tab (cnt := fun s : Nat × List Slt => s.1) (lk := lkC f) (yd := ydC) (ct := ctC) hl hy (deep := deep1 (lkC f) ydC ctC) (q := 262656) (cnt1 (cnt := fun s : Nat × List Slt => s.1) (ct := ctC) hl hy) root 0 0 { s := (0, []), left := 3000, go := true } 512
  rw [all_tab] at this
  generalize allS (lkC f) ydC ctC root { s := (0, []), left := 3000, go := true } = Tf at this ⊢
  have h2 : Tf.s.1 ≤ 0 + 512 * (262656 + 1) := this
  omega
end Go.Proofs.YtfnikcjcgneboaaGreat
/- Leaves at a root that is none; with none to be told. Own work. -/
namespace Go.Proofs.YtfnikcjcgneboaaGreat
open Go.RowKit Go.Shelf Wk Lv
attribute [local go_sem] Oper.semAt_some
set_option maxRecDepth 100000 in
theorem pages_root (w : World) : Calls Tryz.prog 41 #[.int .i64 (-1)] w fun e w' => e = .returned (.int .i64 134217728) ∧ Below w.heap.size w w' := by
  go_enter Tryz.func41, Tryz.ntmps41
  go_wp2_with fail
  refine bodyPost_ret (v := .int .i64 134217728) (by simp [results, Tryz.results41, go_sem]) rfl ⟨rfl, Below.refl _ _⟩
set_option maxRecDepth 100000 in
set_option maxHeartbeats 4000000 in
theorem leaves1_bad {n l0 Bm Bo Br root most : Nat} {T : TypeId} {u : Value} {W : World} {R : World → Prop} {bk : Bool} (hBm : W.cell? ⟨Bm, 0, none⟩ = some (.iface T u)) (hBo : W.cell? ⟨Bo, 0, none⟩ = some (.int .i64 (most : Int))) (hBr : W.cell? ⟨Br, 0, none⟩ = some (.int .u64 (root : Int))) (hroot : root % 4096 ≠ 0) (h1 : 1 ≤ most)
    (hyd : ∀ W', Below W.heap.size W W' → YieldAt Fence.wide (n - 1) Tryz.prog l0 #[.agg #[.int .u64 0, .int .u64 0, .int .i64 134217728, .bool false, .bool false, .bool false], .int .i64 42] W' fun e W'' => e = .returned (.bool bk) ∧ R W'') :
    CallsIn Fence.wide n Tryz.prog 40 #[.func (.yield l0) #[] #[], .pointer (some ⟨Bm, 0, none⟩), .pointer (some ⟨Bo, 0, none⟩), .pointer (some ⟨Br, 0, none⟩)] W fun e W' => (∃ v, e = .returned v) ∧ R W' := by
  have hbm : Bm < W.heap.size := World.block_lt_of_cell? W _ hBm
  have hbo : Bo < W.heap.size := World.block_lt_of_cell? W _ hBo
  have hbr : Br < W.heap.size := World.block_lt_of_cell? W _ hBr
  have HYd := Lib.hid hyd
  clear hyd
  obtain ⟨q, hq⟩ : ∃ q, q = root % 4096 := ⟨_, rfl⟩
  have hq0 : q ≠ 0 := by omega
  have hr : (root : Int).tmod 4096 = (q : Int) := by rw [Int.tmod_eq_emod_of_nonneg (by omega), hq]; omega
  have hr2 : (root : Int) % 4096 = (q : Int) := by omega
  have hqb : ((q : Int) != 0) = true := by simp; omega
  have hqi : ¬ (q : Int) = 0 := by omega
  have hmx : Tryz.prog.follows .mixedOrders = true := by kernel_rfl
  have HPg := Lib.hid pages_root
  clear hq hroot
  refine callsIn_of_wp_marks Tryz.func40 rfl trivial ?_ rfl
  simp only [Tryz.ntmps40, List.size_toArray, List.length_cons, List.length_nil, Nat.reduceAdd, Nat.reduceSub, Array.replicate_succ, Array.replicate_zero, List.push_toArray, List.append_toArray, List.nil_append, List.cons_append]
  gi_wp2
  obtain ⟨W2, hW2⟩ : ∃ W2, W.alloc (Obj.cells #[.func (.yield l0) #[] #[]] 110) = W2 := ⟨_, rfl⟩
  have HB2 := Lib.hid (show Below W.heap.size W W2 from hW2 ▸ (Below.refl _ W).alloc (Nat.le_refl _) _)
  have y0 : W2.cell? ⟨W.heap.size, 0, none⟩ = some (.func (.yield l0) #[] #[]) := hW2 ▸ cell_first W _ _
  have hlt : W.heap.size < W2.heap.size := World.block_lt_of_cell? W2 _ y0
  rw [hW2]
  clear hW2 hBm hBo hBr
  refine wpIn_mono (Q := NoPanic _) ?_ NoPanic.imp
  gi_region_with_o (first
    | (refine ⟨trivial, fun h => absurd h (by decide), ?_⟩; refine (callsIn_wide.2 (HPg.out _)).mono ?_; rintro e w3 ⟨rfl, hb3⟩; have hb3' := (Below.drew (Below.refl _ W2)).trans hb3; have y3 := (hb3'.cell (p := ⟨W.heap.size, 0, none⟩) hlt).trans y0; obtain ⟨fn, tmps, assign, body, hy, hR⟩ := HYd.out w3 (HB2.out.trans (hb3'.mono HB2.out.size)); have HR3 := Lib.hid hR; clear hR)
    | (refine ⟨fun h => absurd h (by decide), ?_⟩; refine HR3.out.mono ?_; rintro e W5 ⟨rfl, hJ5⟩; have HJ5 := Lib.hid hJ5; clear hJ5))
  all_goals (
    refine NoPanic.normal ?_
    gi_wp2
    exact ⟨_, results_none rfl _ _ _, ⟨_, rfl⟩, HJ5.out⟩)
section
variable {σ : Type} {lk : σ → Nat → Nat → Nat → (Ent × Int) × σ} {yd : σ → Slt → σ} {ct : σ → Slt → Bool} {f : σ → Nat} {C : Nat}
/-- whoever counts what is told counts no more than may be -/
def Few (f : σ → Nat) (C : Nat) (t : St σ) : Prop := (t.go = true → 1 ≤ t.left) ∧ f t.s + t.left ≤ C
theorem few_visit (hy : ∀ s x, f (yd s x) ≤ f s + 1) {t : St σ} (hgo : t.go = true) (h : Few f C t) (y : Slt) : Few f C (visitS yd ct t y) := by
  have h1 := h.1 hgo
  have h2 := h.2
  unfold visitS
  split
  · exact ⟨fun e => by have e' := of_decide_eq_true e; show 1 ≤ t.left - 1; omega, by show f t.s + (t.left - 1) ≤ C; omega⟩
  · have := hy t.s y
    refine ⟨fun e => ?_, by show f (yd t.s y) + (t.left - 1) ≤ C; omega⟩
    have e' : (ct t.s y && decide (1 < t.left)) = true := e
    rw [Bool.and_eq_true] at e'
    have := of_decide_eq_true e'.2
    show 1 ≤ t.left - 1
    omega
theorem few_tab (hl : ∀ s a b c, f (lk s a b c).2 ≤ f s) (hy : ∀ s x, f (yd s x) ≤ f s + 1) {deep : Nat → Nat → Nat → St σ → St σ} (hd : ∀ a b c t, Few f C t → Few f C (deep a b c t)) (fr virt lev : Nat) {t : St σ} (h : Few f C t) : ∀ i, Few f C (tabN lk yd ct deep fr virt lev i t)
  | 0 => h
  | i + 1 => by
    have hi := few_tab hl hy hd fr virt lev h i
    rw [tabN]
    split
    · rename_i hgo
      have h2 := hl (tabN lk yd ct deep fr virt lev i t).s fr i lev
      have hi2 : Few f C { tabN lk yd ct deep fr virt lev i t with s := (lk (tabN lk yd ct deep fr virt lev i t).s fr i lev).2 } := ⟨hi.1, by have := hi.2; show f (lk (tabN lk yd ct deep fr virt lev i t).s fr i lev).2 + (tabN lk yd ct deep fr virt lev i t).left ≤ C; omega⟩
      by_cases h41 : (lk (tabN lk yd ct deep fr virt lev i t).s fr i lev).1.2 = 41
      · rw [step_absent h41]
        exact hi2
      · rw [step_aft h41]
        have hv : ∀ y, Few f C (visitS yd ct { tabN lk yd ct deep fr virt lev i t with s := (lk (tabN lk yd ct deep fr virt lev i t).s fr i lev).2 } y) := fun y => few_visit hy (by exact hgo) hi2 y
        unfold aft
        split
        · exact hd _ _ _ _ (hv _)
        · exact hv _
    · exact hi
theorem few_all (hl : ∀ s a b c, f (lk s a b c).2 ≤ f s) (hy : ∀ s x, f (yd s x) ≤ f s + 1) (root : Nat) {t : St σ} (h : Few f C t) : Few f C (allS lk yd ct root t) :=
  few_tab hl hy (fun a b c _ h => few_tab hl hy (fun a b c _ h => few_tab hl hy (fun _ _ _ _ h => h) a b c h 512) a b c h 512) root 0 0 h 512
end
end Go.Proofs.YtfnikcjcgneboaaGreat
