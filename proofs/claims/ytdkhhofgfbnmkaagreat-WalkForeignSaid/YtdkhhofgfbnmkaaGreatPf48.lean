import Derived.Test.YtdkhhofgfbnmkaaGreatPf47
import Derived.Test.YtdkhhofgfbnmkaaGreatPf41
import Derived.Test.YtdkhhofgfbnmkaaGreatPf44
import Derived.Test.YtdkhhofgfbnmkaaGreatPf45
import Derived.Deep.DeepCutAuto
import Derived.Deep.RegionHeld3
/- WalkForeign: what is common. Own work. -/
namespace Go.Proofs.YtdkhhofgfbnmkaaGreat
open Go.RowKit Go.Maps Go.Proofs.YtdkhhofgfbnmkaaGreat.Sp Wk Lv
/-- a block of the law's own: none of the machines' -/
def NoM (t : TypeId) : Prop := t ≠ 49 ∧ t ≠ 52 ∧ t ≠ 5 ∧ t ≠ 170
/-- the law's own blocks from base on stay -/
def Bx (base : Nat) (w w' : World) : Prop := w.heap.size ≤ w'.heap.size ∧ ∀ g c t fr, base ≤ g → w.heap[g]? = some (.cells c t fr) → NoM t → w'.heap[g]? = some (.cells c t fr)
theorem Bx.refl (base : Nat) (w : World) : Bx base w w := ⟨Nat.le_refl _, fun _ _ _ _ _ h _ => h⟩
theorem Bx.trans {base : Nat} {a b c : World} (h : Bx base a b) (k : Bx base b c) : Bx base a c := ⟨Nat.le_trans h.1 k.1, fun g c t fr hg hc ht => k.2 g c t fr hg (h.2 g c t fr hg hc ht) ht⟩
theorem Bx.below {base : Nat} {w w' : World} (h : Below w.heap.size w w') : Bx base w w' := ⟨h.size, fun g _ _ _ _ hc _ => (h.block g (Array.getElem?_eq_some_iff.1 hc).1).trans hc⟩
theorem Bx.kv {base : Nat} {w w' : World} (h : Kv base w w') : Bx base w w' := ⟨Keeps.size h, fun g c t fr hg hc ht => (Keeps.block h g (Array.getElem?_eq_some_iff.1 hc).1 (fun hv => by
  obtain ⟨_, c', t', fr', hc', ht'⟩ := hv
  rw [hc] at hc'
  cases hc'
  rcases ht' with e | e | e
  · exact ht.1 e
  · exact ht.2.1 e
  · exact ht.2.2.1 e)).trans hc⟩
open Classical in
/-- what a Load or a Fetch answers, of whatever width -/
noncomputable def ldA (LL : List Sp) (M : Nat → Nat) (t v : Nat) (acc n : Int) : Nat × Int × Nat := if 0 ≤ n ∧ Wide n.toNat then takeV LL M t v acc n.toNat else (0, 31, v)
open Classical in
noncomputable def ldC (LL : List Sp) (M : Nat → Nat) (t v : Nat) (acc n : Int) : Nat := if 0 ≤ n ∧ Wide n.toNat then tkC LL M t v acc n.toNat else 0
theorem ldC_le (LL : List Sp) (M : Nat → Nat) (t v : Nat) (acc n : Int) : ldC LL M t v acc n ≤ 8 := by
  unfold ldC
  split
  · rename_i h
    unfold tkC
    split
    · omega
    · rcases h.2 with e | e | e | e <;> omega
  · omega
theorem not_wide_of {n : Int} (h : ¬ (0 ≤ n ∧ Wide n.toNat)) : ∀ k : Nat, Wide k → n ≠ (k : Int) := fun k hk e => h ⟨by omega, by rw [e]; exact hk⟩
open Classical in
/-- what a Store answers and leaves, of whatever width -/
noncomputable def stA (LL : List Sp) (M : Nat → Nat) (t v : Nat) (n : Int) : Int × Nat := if 0 ≤ n ∧ Wide n.toNat then (match reachF LL M t v 2 n.toNat with | some x => x | none => (0, 0)) else (31, v)
set_option maxRecDepth 100000 in
set_option maxHeartbeats 2000000 in
theorem same_one (a b : Int) (w : World) : Calls Tryz.prog 22 #[.agg #[.int .i64 a, .int .u64 b], .agg #[.int .i64 a, .int .u64 b]] w fun e w' => e = .returned (.bool true) ∧ Below w.heap.size w w' := by
  obtain ⟨W1, hW1⟩ : ∃ W1, w.alloc (Obj.cells #[.int .i64 a, .int .u64 b] 57) = W1 := ⟨_, rfl⟩
  have hb1 : Below w.heap.size w W1 := hW1 ▸ (Below.refl _ _).alloc (Nat.le_refl _) _
  have hf1 : BoxF W1 w.heap.size a b := hW1 ▸ BoxF.new w a b
  obtain ⟨W2, hW2⟩ : ∃ W2, W1.alloc (Obj.cells #[.int .i64 a, .int .u64 b] 41) = W2 := ⟨_, rfl⟩
  have hb2 : Below W1.heap.size W1 W2 := hW2 ▸ (Below.refl _ _).alloc (Nat.le_refl _) _
  have hg2 : BoxG W2 W1.heap.size a b := hW2 ▸ BoxG.new W1 a b
  have hf2 := hf1.below hb2
  have HB : Hid (Below w.heap.size w W2) := hb1.trans (hb2.mono hb1.size)
  obtain ⟨x0, x1, _, _⟩ := hf2.cells
  obtain ⟨y0, y1, _, _⟩ := hg2.cells
  clear hb1 hb2 hf1 hf2 hg2
  go_enter Tryz.func22, Tryz.ntmps22
  go_wp2_with fail
  go_ret
  exact ⟨rfl, HB.out⟩
/-- a step of the script in its block -/
def OpAt (w : World) (g : Nat) (kd : Int) (rt vt vl : Nat) (nn : Int) : Prop := w.heap[g]? = some (.cells #[.int .i64 kd, .int .u64 (rt : Int), .int .u64 (vt : Int), .int .u64 (vl : Int), .int .i64 nn] 36 (0, 0))
theorem OpAt.cells {w : World} {g : Nat} {kd : Int} {rt vt vl : Nat} {nn : Int} (h : OpAt w g kd rt vt vl nn) : w.cell? ⟨g, 0, none⟩ = some (.int .i64 kd) ∧ w.cell? ⟨g, 1, none⟩ = some (.int .u64 (rt : Int)) ∧ w.cell? ⟨g, 2, none⟩ = some (.int .u64 (vt : Int)) ∧ w.cell? ⟨g, 3, none⟩ = some (.int .u64 (vl : Int)) ∧ w.cell? ⟨g, 4, none⟩ = some (.int .i64 nn) := by
  refine ⟨?_, ?_, ?_, ?_, ?_⟩ <;> rw [cell_of_row w g _ _ _ _ h] <;> rfl
theorem OpAt.bx {w w' : World} {base g : Nat} {kd : Int} {rt vt vl : Nat} {nn : Int} (h : OpAt w g kd rt vt vl nn) (hb : Bx base w w') (hg : base ≤ g) : OpAt w' g kd rt vt vl nn := hb.2 g _ _ _ hg h (by unfold NoM; decide)
theorem OpAt.below {w w' : World} {g : Nat} {kd : Int} {rt vt vl : Nat} {nn : Int} (h : OpAt w g kd rt vt vl nn) (hb : Below w.heap.size w w') : OpAt w' g kd rt vt vl nn := (hb.block g (Array.getElem?_eq_some_iff.1 (show w.heap[g]? = _ from h)).1).trans h
theorem OpAt.new (w : World) (kd : Int) (rt vt vl : Nat) (nn : Int) : OpAt (w.alloc (Obj.cells #[.int .i64 kd, .int .u64 (rt : Int), .int .u64 (vt : Int), .int .u64 (vl : Int), .int .i64 nn] 36)) w.heap.size kd rt vt vl nn := heap_alloc_new w _
theorem BoxF.bx {w w' : World} {base g : Nat} {x y : Int} (h : BoxF w g x y) (hb : Bx base w w') (hg : base ≤ g) : BoxF w' g x y := hb.2 g _ _ _ hg h (by unfold NoM; decide)
open Classical in
/-- what eight bytes that are laid by hand are answered -/
noncomputable def layA (LL : List Sp) (a : Nat) : Int × Int := if h : ∃ y : Int × Bool, OffR LL a 8 y.1 y.2 then (if (Classical.choose h).2 then 30 else 0, (Classical.choose h).1) else (0, 0)
theorem layA_is {LL : List Sp} {a : Nat} {x : Int} {b : Bool} (ho : OffR LL a 8 x b) : layA LL a = (if b then 30 else 0, x) := by
  have h : ∃ y : Int × Bool, OffR LL a 8 y.1 y.2 := ⟨(x, b), ho⟩
  unfold layA
  rw [dif_pos h]
  obtain ⟨e1, e2⟩ := (Classical.choose_spec h).unique ho
  rw [e1, e2]
open Classical in
/-- what one more told makes of it -/
noncomputable def nxP (ws : List T7) (h : Nat) (s : SP) (x : T7) : SP := if ws[s.2.1]? = some x then (s.1, s.2.1 + 1, if h < s.2.1 + 1 then 1 else 0) else (s.1, s.2.1, 2)
open Classical in
noncomputable def goP (ws : List T7) (h : Nat) (s : SP) (x : T7) : Bool := decide (ws[s.2.1]? = some x ∧ ¬ h < s.2.1 + 1)
open Classical in
theorem ydP_nx (ws : List T7) (h : Nat) (s : SP) (x : Slt) : ydP ws h s x = nxP ws h s (td x) := by
  by_cases e : ws[s.2.1]? = some (td x)
  · have e' : okP ws s.2.1 x := e
    unfold ydP nxP
    rw [if_pos e', if_pos e]
  · have e' : ¬ okP ws s.2.1 x := e
    unfold ydP nxP
    rw [if_neg e', if_neg e]
open Classical in
theorem ctP_go (ws : List T7) (h : Nat) (s : SP) (x : Slt) : ctP ws h s x = goP ws h s (td x) := by
  by_cases e : ws[s.2.1]? = some (td x) ∧ ¬ h < s.2.1 + 1
  · rw [ctP_yes e.1 e.2]
    exact (decide_eq_true e).symm
  · have h2 : goP ws h s (td x) = false := decide_eq_false e
    rw [h2]
    by_cases e1 : ws[s.2.1]? = some (td x)
    · exact ctP_no (Nat.lt_of_not_le fun hh => e ⟨e1, by omega⟩)
    · exact ctP_bad e1
open Classical in
theorem nxP_ok {ws : List T7} {h : Nat} {s : SP} {x : T7} (e : ws[s.2.1]? = some x) : nxP ws h s x = (s.1, s.2.1 + 1, if h < s.2.1 + 1 then 1 else 0) := if_pos e
open Classical in
theorem nxP_bad {ws : List T7} {h : Nat} {s : SP} {x : T7} (e : ¬ ws[s.2.1]? = some x) : nxP ws h s x = (s.1, s.2.1, 2) := if_neg e
open Classical in
theorem goP_true {ws : List T7} {h : Nat} {s : SP} {x : T7} (e : goP ws h s x = true) : ws[s.2.1]? = some x ∧ ¬ h < s.2.1 + 1 := of_decide_eq_true e
open Classical in
theorem goP_bad {ws : List T7} {h : Nat} {s : SP} {x : T7} (e : ¬ ws[s.2.1]? = some x) : goP ws h s x = false := by
  unfold goP
  rw [decide_eq_false_iff_not]
  exact fun hh => e hh.1
open Classical in
theorem goP_no {ws : List T7} {h : Nat} {s : SP} {x : T7} (e : h < s.2.1 + 1) : goP ws h s x = false := by
  unfold goP
  rw [decide_eq_false_iff_not]
  exact fun hh => hh.2 e
open Classical in
theorem goP_yes {ws : List T7} {h : Nat} {s : SP} {x : T7} (e : ws[s.2.1]? = some x) (hh : ¬ h < s.2.1 + 1) : goP ws h s x = true := by
  unfold goP
  rw [decide_eq_true_iff]
  exact ⟨e, hh⟩
theorem leaves_marks2 {F : Fence} {m : Nat} {P : Program} {fn : Func} {tmps : Array Value} {R : Ending → World → Prop} {n : Nat} : ∀ (ds : List Deferred) (W : World), Marks n ds W → (∀ W', Keeps (fun j => n ≤ j ∧ ∃ o, W.heap[j]? = some (.deferred o)) W W' → LeavesInM F m P fn tmps R [] .returning W') → LeavesInM F m P fn tmps R ds .returning W
  | [], W, _, h => h W (Keeps.refl _ _)
  | d :: ds, W, ⟨D, h1, h2, h3, h4, h5⟩, h => by
    subst h1
    refine ⟨by simp, .inl ⟨D, _, rfl, run_takeDeferred h3, leaves_marks2 ds _ (h5.put h4) (fun W' hk => h W' (((Keeps.putObj W D _).mono (S' := fun j => n ≤ j ∧ ∃ o, W.heap[j]? = some (.deferred o)) (fun i _ e => by have e : i = D := e; rw [e]; exact ⟨h2, _, h3⟩)).trans hk (fun i _ ⟨hn, o, e⟩ => ⟨hn, ?_⟩)))⟩⟩
    by_cases hi : i = D
    · rw [hi]
      exact ⟨_, h3⟩
    · rw [World.putObj_heap_other hi] at e
      exact ⟨o, e⟩
/-- how many rounds are left -/
def leftOf (b : Value) (w : World) : Nat := match b with | .pointer (some p) => (match w.cell? p with | some (.int _ n) => 2 - n.toNat | _ => 0) | _ => 0
theorem leftOf_at {w : World} {g k : Nat} (h : IntAt w g (k : Int)) : leftOf (.pointer (some ⟨g, 0, none⟩)) w = 2 - k := by
  unfold leftOf
  dsimp only
  rw [h.cell]
  simp
end Go.Proofs.YtdkhhofgfbnmkaaGreat
/- WalkForeign: each call of the law over the two machines. Own work. -/
namespace Go.Proofs.YtdkhhofgfbnmkaaGreat
open Go.RowKit Go.Maps Go.Proofs.YtdkhhofgfbnmkaaGreat.Sp Wk Lv
/-- what a machine holds: its memory, its Loads, its Stores, the numbers of its pages -/
abbrev Ht : Type := (Nat → Nat) × Nat × Nat × List Int
/-- two machines of the document's own, apart: one behind a tape -/
def GMt (w0 wr : World) (base m v : Nat) (vr vd : Value) (rs ds : List Sp) (p q : Ht) (n k : Nat) : Prop :=
  ∃ vp1 ps1 vp2 ps2 X', Ty wr m w0 base vr vd vp1 ps1 p.1 rs ds p.2.1 p.2.2.1 n ∧ ps1.map Prod.fst = p.2.2.2 ∧ X' ≤ k ∧ RM wr base v vr vd vp2 ps2 q.1 q.2.1 q.2.2.1 X' ∧ ps2.map Prod.fst = q.2.2.2 ∧ (∀ j, Fo m vp1 ps1 j → ¬ Fo v vp2 ps2 j) ∧ base ≤ wr.heap.size
section
variable {w0 wr W' : World} {base m v : Nat} {vr vd : Value} {rs ds : List Sp} {p q p' q' : Ht} {n k n' k' : Nat}
theorem GMt.below (h : GMt w0 wr base m v vr vd rs ds p q n k) (hb : Below wr.heap.size wr W') : GMt w0 W' base m v vr vd rs ds p q n k := by
  obtain ⟨vp1, ps1, vp2, ps2, X', h1, g1, hX', h7, g2, hd0, h5⟩ := h
  exact ⟨vp1, ps1, vp2, ps2, X', h1.below hb, g1, hX', h7.below hb, g2, hd0, Nat.le_trans h5 hb.size⟩
theorem GMt.mono (h : GMt w0 wr base m v vr vd rs ds p q n k) (hn : n ≤ n') (hk : k ≤ k') : GMt w0 wr base m v vr vd rs ds p q n' k' := by
  obtain ⟨vp1, ps1, vp2, ps2, X', h1, g1, hX', h7, g2, hd0, h5⟩ := h
  exact ⟨vp1, ps1, vp2, ps2, X', h1.mono hn, g1, Nat.le_trans hX' hk, h7, g2, hd0, h5⟩
theorem GMt.hbase (h : GMt w0 wr base m v vr vd rs ds p q n k) : base ≤ wr.heap.size := by
  obtain ⟨vp1, ps1, vp2, ps2, X', h1, g1, hX', h7, g2, hd0, h5⟩ := h
  exact h5
theorem GMt.low (h : GMt w0 wr base m v vr vd rs ds p q n k) : Below w0.heap.size w0 wr ∧ U64.SV w0 vr rs ∧ U64.SV w0 vd ds ∧ Sane (rs ++ ds) ∧ rs.length + ds.length ≤ 64 ∧ w0.heap.size ≤ base := by
  obtain ⟨vp1, ps1, vp2, ps2, X', ⟨X, _, _, h1⟩, _⟩ := h
  exact h1
/-- what the machine behind the tape does leaves the other as it was -/
theorem gt_pack1 {vp1 vp2 vp1' : Value} {ps1 ps2 ps1' : List (Int × Nat)} {X' : Nat} (h1 : Ty wr m w0 base vr vd vp1 ps1 p.1 rs ds p.2.1 p.2.2.1 n) (hX' : X' ≤ k) (h7 : RM wr base v vr vd vp2 ps2 q.1 q.2.1 q.2.2.1 X') (g2 : ps2.map Prod.fst = q.2.2.2) (hd0 : ∀ j, Fo m vp1 ps1 j → ¬ Fo v vp2 ps2 j) (h5 : base ≤ wr.heap.size)
    (hk : Kf m vp1 ps1 wr vp1' ps1' W') (hy : Ty W' m w0 base vr vd vp1' ps1' p'.1 rs ds p'.2.1 p'.2.2.1 n') (hn : ps1'.map Prod.fst = p'.2.2.2) : GMt w0 W' base m v vr vd rs ds p' q n' k ∧ Bx base wr W' := by
  refine ⟨⟨vp1', ps1', vp2, ps2, X', hy, hn, hX', h7.keepsF hk.keeps (fun j hj e => hd0 j e hj), g2, fun j hj e => ?_, Nat.le_trans h5 hk.keeps.size⟩, Bx.kv (Kv.of hk.keeps (fun j _ e => ?_))⟩
  · rcases hk.grown j hj with hj | hj
    · exact hd0 j hj e
    · have := (h7.fo e).lt
      omega
  · obtain ⟨X, _, hrm, _⟩ := h1
    exact hrm.fo e
/-- what the other does leaves the machine behind the tape as it was -/
theorem gt_pack2 {vp1 vp2 vp2' : Value} {ps1 ps2 ps2' : List (Int × Nat)} {X' X2 : Nat} (h1 : Ty wr m w0 base vr vd vp1 ps1 p.1 rs ds p.2.1 p.2.2.1 n) (g1 : ps1.map Prod.fst = p.2.2.2) (h7 : RM wr base v vr vd vp2 ps2 q.1 q.2.1 q.2.2.1 X') (hd0 : ∀ j, Fo m vp1 ps1 j → ¬ Fo v vp2 ps2 j) (h5 : base ≤ wr.heap.size)
    (hk : Kf v vp2 ps2 wr vp2' ps2' W') (hX2 : X2 ≤ k') (hy : RM W' base v vr vd vp2' ps2' q'.1 q'.2.1 q'.2.2.1 X2) (hn : ps2'.map Prod.fst = q'.2.2.2) : GMt w0 W' base m v vr vd rs ds p q' n k' ∧ Bx base wr W' := by
  refine ⟨⟨vp1, ps1, vp2', ps2', X2, h1.keeps hk.keeps (fun j hj e => ?_), g1, hX2, hy, hn, fun j hj e => ?_, Nat.le_trans h5 hk.keeps.size⟩, Bx.kv (Kv.of hk.keeps (fun j _ e => h7.fo e))⟩
  · rcases hj with hj | hj
    · exact hd0 j hj e
    · have := (h7.fo e).1
      have := h1.base_le
      omega
  · rcases hk.grown j e with e | e
    · exact hd0 j hj e
    · have := h1.mine_lt (.inl hj)
      omega
theorem gt_tr1 {t vi : Nat} {acc : Int} (h : GMt w0 wr base m v vr vd rs ds p q n k) (ht : t ≤ 18446744073709551615) (hv : vi ≤ 18446744073709551615) (hn : n ≤ 4611686018427370000) :
    Calls Tryz.prog 20 #[.iface 46 (.agg #[.pointer (some ⟨m, 0, none⟩)]), .int .u64 (t : Int), .int .u64 (vi : Int), .int .i64 acc] wr fun e w' => e = .returned (.tuple #[.int .u64 ((adrF (rs ++ ds) p.1 t vi acc).1 : Int), .agg #[.int .i64 (adrF (rs ++ ds) p.1 t vi acc).2, .int .u64 (whyAt (adrF (rs ++ ds) p.1 t vi acc).2 vi : Int)]]) ∧ Hid (GMt w0 w' base m v vr vd rs ds p q (n + 1) k) ∧ Hid (Bx base wr w') := by
  obtain ⟨vp1, ps1, vp2, ps2, X', h1, g1, hX', h7, g2, hd0, h5⟩ := h
  refine (translate_t h1 ht hv (by omega)).mono ?_
  rintro e w' ⟨rfl, hy, hk⟩
  obtain ⟨r1, r2⟩ := gt_pack1 h1 hX' h7 g2 hd0 h5 (Kf.one hk.out) hy.out g1
  exact ⟨rfl, r1, r2⟩
theorem gt_tr2 {t vi : Nat} {acc : Int} (h : GMt w0 wr base m v vr vd rs ds p q n k) (ht : t ≤ 18446744073709551615) (hv : vi ≤ 18446744073709551615) (hn : k ≤ 4611686018427370000) :
    Calls Tryz.prog 21 #[.pointer (some ⟨v, 0, none⟩), .int .u64 (t : Int), .int .u64 (vi : Int), .int .i64 acc] wr fun e w' => e = .returned (.tuple #[.int .u64 ((adrF (rs ++ ds) q.1 t vi acc).1 : Int), .agg #[.int .i64 (adrF (rs ++ ds) q.1 t vi acc).2, .int .u64 (whyAt (adrF (rs ++ ds) q.1 t vi acc).2 vi : Int)]]) ∧ Hid (GMt w0 w' base m v vr vd rs ds p q n k) ∧ Hid (Bx base wr w') := by
  obtain ⟨h6, hr, hd, hs, hl, h4⟩ := h.low
  obtain ⟨vp1, ps1, vp2, ps2, X', h1, g1, hX', h7, g2, hd0, h5⟩ := h
  refine (rtrans_at h7 h6 (Nat.le_trans h4 h7.1) h7.2.1.lt hr hd hs hl (by omega) ht hv).mono ?_
  rintro e w' ⟨rfl, hm, hk⟩
  obtain ⟨r1, r2⟩ := gt_pack2 h1 g1 h7 hd0 h5 (Kf.one hk) hX' hm g2
  exact ⟨rfl, r1, r2⟩
theorem gt_ld1 {t vi : Nat} {nn : Int} (h : GMt w0 wr base m v vr vd rs ds p q n k) (ht : t ≤ 18446744073709551615) (hn : n ≤ 4611686018427360000) (hL : p.2.1 ≤ 4611686018427360000) :
    Calls Tryz.prog 14 #[.iface 46 (.agg #[.pointer (some ⟨m, 0, none⟩)]), .int .u64 (t : Int), .int .u64 (vi : Int), .int .i64 nn] wr fun e w' => e = .returned (.tuple #[.int .u64 ((ldA (rs ++ ds) p.1 t vi 1 nn).1 : Int), .agg #[.int .i64 (ldA (rs ++ ds) p.1 t vi 1 nn).2.1, .int .u64 ((ldA (rs ++ ds) p.1 t vi 1 nn).2.2 : Int)]]) ∧ Hid (GMt w0 w' base m v vr vd rs ds (p.1, p.2.1 + ldC (rs ++ ds) p.1 t vi 1 nn, p.2.2) q (n + 32) k) ∧ Hid (Bx base wr w') := by
  by_cases hw : 0 ≤ nn ∧ Wide nn.toNat
  · obtain ⟨kk, rfl⟩ : ∃ kk : Nat, nn = (kk : Int) := ⟨nn.toNat, by omega⟩
    have hw2 : Wide kk := by have := hw.2; rwa [Int.toNat_natCast] at this
    obtain ⟨vp1, ps1, vp2, ps2, X', h1, g1, hX', h7, g2, hd0, h5⟩ := h
    rw [ldA, ldC, if_pos hw, if_pos hw, Int.toNat_natCast]
    refine (wload_t (v := vi) h1 (by omega) ht (by omega) hw2).mono ?_
    rintro e w' ⟨rfl, hy, hk⟩
    obtain ⟨r1, r2⟩ := gt_pack1 (p' := (p.1, p.2.1 + tkC (rs ++ ds) p.1 t vi 1 kk, p.2.2)) h1 hX' h7 g2 hd0 h5 (Kf.one hk.out) hy.out g1
    exact ⟨rfl, r1, r2⟩
  · rw [ldA, ldC, if_neg hw, if_neg hw]
    refine (wload_no (not_wide_of hw) wr).mono ?_
    rintro e w' ⟨rfl, hb⟩
    exact ⟨rfl, (h.below hb).mono (by omega) (Nat.le_refl _), Bx.below hb⟩
theorem gt_ft1 {t vi : Nat} {nn : Int} (h : GMt w0 wr base m v vr vd rs ds p q n k) (ht : t ≤ 18446744073709551615) (hn : n ≤ 4611686018427360000) (hL : p.2.1 ≤ 4611686018427360000) :
    Calls Tryz.prog 15 #[.iface 46 (.agg #[.pointer (some ⟨m, 0, none⟩)]), .int .u64 (t : Int), .int .u64 (vi : Int), .int .i64 nn] wr fun e w' => e = .returned (.tuple #[.int .u64 ((ldA (rs ++ ds) p.1 t vi 3 nn).1 : Int), .agg #[.int .i64 (ldA (rs ++ ds) p.1 t vi 3 nn).2.1, .int .u64 ((ldA (rs ++ ds) p.1 t vi 3 nn).2.2 : Int)]]) ∧ Hid (GMt w0 w' base m v vr vd rs ds (p.1, p.2.1 + ldC (rs ++ ds) p.1 t vi 3 nn, p.2.2) q (n + 32) k) ∧ Hid (Bx base wr w') := by
  by_cases hw : 0 ≤ nn ∧ Wide nn.toNat
  · obtain ⟨kk, rfl⟩ : ∃ kk : Nat, nn = (kk : Int) := ⟨nn.toNat, by omega⟩
    have hw2 : Wide kk := by have := hw.2; rwa [Int.toNat_natCast] at this
    obtain ⟨vp1, ps1, vp2, ps2, X', h1, g1, hX', h7, g2, hd0, h5⟩ := h
    rw [ldA, ldC, if_pos hw, if_pos hw, Int.toNat_natCast]
    refine (wfetch_t (v := vi) h1 (by omega) ht (by omega) hw2).mono ?_
    rintro e w' ⟨rfl, hy, hk⟩
    obtain ⟨r1, r2⟩ := gt_pack1 (p' := (p.1, p.2.1 + tkC (rs ++ ds) p.1 t vi 3 kk, p.2.2)) h1 hX' h7 g2 hd0 h5 (Kf.one hk.out) hy.out g1
    exact ⟨rfl, r1, r2⟩
  · rw [ldA, ldC, if_neg hw, if_neg hw]
    refine (wfetch_no (not_wide_of hw) wr).mono ?_
    rintro e w' ⟨rfl, hb⟩
    exact ⟨rfl, (h.below hb).mono (by omega) (Nat.le_refl _), Bx.below hb⟩
theorem gt_ld2 {t vi : Nat} {acc nn : Int} (h : GMt w0 wr base m v vr vd rs ds p q n k) (ht : t ≤ 18446744073709551615) (hn : k ≤ 4611686018427370000) (hL : q.2.1 ≤ 4611686018427360000) :
    Calls Tryz.prog 23 #[.pointer (some ⟨v, 0, none⟩), .int .u64 (t : Int), .int .u64 (vi : Int), .int .i64 nn, .int .i64 acc] wr fun e w' => e = .returned (.tuple #[.int .u64 ((ldA (rs ++ ds) q.1 t vi acc nn).1 : Int), .agg #[.int .i64 (ldA (rs ++ ds) q.1 t vi acc nn).2.1, .int .u64 ((ldA (rs ++ ds) q.1 t vi acc nn).2.2 : Int)]]) ∧ Hid (GMt w0 w' base m v vr vd rs ds p (q.1, q.2.1 + ldC (rs ++ ds) q.1 t vi acc nn, q.2.2) n k) ∧ Hid (Bx base wr w') := by
  by_cases hw : 0 ≤ nn ∧ Wide nn.toNat
  · obtain ⟨kk, rfl⟩ : ∃ kk : Nat, nn = (kk : Int) := ⟨nn.toNat, by omega⟩
    have hw2 : Wide kk := by have := hw.2; rwa [Int.toNat_natCast] at this
    obtain ⟨h6, hr, hd, hs, hl, h4⟩ := h.low
    obtain ⟨vp1, ps1, vp2, ps2, X', h1, g1, hX', h7, g2, hd0, h5⟩ := h
    rw [ldA, ldC, if_pos hw, if_pos hw, Int.toNat_natCast]
    refine (rld_of h7 h6 (Nat.le_trans h4 h7.1) h7.2.1.lt hr hd hs hl (by omega) (by omega) ht hw2).mono ?_
    rintro e w' ⟨hk, ⟨why, x, hre, rfl, hm⟩ | ⟨hre, rfl, hm⟩⟩
    · obtain ⟨r1, r2⟩ := gt_pack2 (q' := q) h1 g1 h7 hd0 h5 (Kf.one hk) hX' hm g2
      refine ⟨?_, ?_, r2⟩
      · rw [takeV, hre]
        rfl
      · rw [tkC, hre]
        exact r1
    · obtain ⟨r1, r2⟩ := gt_pack2 (q' := (q.1, q.2.1 + kk, q.2.2)) h1 g1 h7 hd0 h5 (Kf.one hk) hX' hm g2
      refine ⟨?_, ?_, r2⟩
      · rw [takeV, hre, take_sm hw2]
        rfl
      · rw [tkC, hre]
        exact r1
  · rw [ldA, ldC, if_neg hw, if_neg hw]
    refine (rld_no (not_wide_of hw) wr).mono ?_
    rintro e w' ⟨rfl, hb⟩
    exact ⟨rfl, h.below hb, Bx.below hb⟩
end
open Classical in
/-- what a Store leaves, of whatever width -/
noncomputable def stHt (LL : List Sp) (t v val : Nat) (n : Int) (p : Ht) : Ht := if 0 ≤ n ∧ Wide n.toNat then (match reachF LL p.1 t v 2 n.toNat with | some _ => p | none => (stM LL p.1 t v val n.toNat, p.2.1, p.2.2.1 + n.toNat, stN LL p.1 t v p.2.2.2 n.toNat)) else p
theorem stHt_le (LL : List Sp) (t v val : Nat) (n : Int) (p : Ht) : (stHt LL t v val n p).2.1 = p.2.1 ∧ (stHt LL t v val n p).2.2.1 ≤ p.2.2.1 + 8 := by
  unfold stHt
  split
  · rename_i h
    split
    · exact ⟨rfl, by omega⟩
    · refine ⟨rfl, ?_⟩
      show p.2.2.1 + n.toNat ≤ _
      rcases h.2 with e | e | e | e <;> omega
  · exact ⟨rfl, by omega⟩
open Classical in
/-- eight bytes are laid -/
noncomputable def stFt (LL : List Sp) (a val : Nat) (p : Ht) : Ht := if ∀ i : Nat, i < 8 → On LL ((a : Int) + i) then (putAt p.1 a ((Pl.le 8 val).take 8), p.2.1, p.2.2.1 + 1, addN p.2.2.2 a 8) else p
theorem stFt_off {LL : List Sp} {a val : Nat} {p : Ht} {x : Int} {b : Bool} (h : OffR LL a 8 x b) : stFt LL a val p = if b then p else (putAt p.1 a ((Pl.le 8 val).take 8), p.2.1, p.2.2.1 + 1, addN p.2.2.2 a 8) := by
  unfold stFt
  cases b with
  | true =>
    obtain ⟨i, hi, _, _, hn, _⟩ := h.1 rfl
    rw [if_neg (fun hh => hn (hh i hi))]
    rfl
  | false =>
    rw [if_pos (h.2 rfl).2]
    rfl
theorem stFt_le (LL : List Sp) (a val : Nat) (p : Ht) : (stFt LL a val p).2.1 = p.2.1 ∧ (stFt LL a val p).2.2.1 ≤ p.2.2.1 + 1 := by
  unfold stFt
  split
  · exact ⟨rfl, Nat.le_refl _⟩
  · exact ⟨rfl, by omega⟩
section
variable {w0 wr W' : World} {base m v : Nat} {vr vd : Value} {rs ds : List Sp} {p q p' q' : Ht} {n k n' k' : Nat}
theorem gt_st1 {t vi val : Nat} {nn : Int} (h : GMt w0 wr base m v vr vd rs ds p q n k) (ht : t ≤ 18446744073709551615) (hval : val ≤ 18446744073709551615) (hn : n ≤ 4611686018427360000) (hS : p.2.2.1 ≤ 4611686018427360000) :
    Calls Tryz.prog 24 #[.iface 46 (.agg #[.pointer (some ⟨m, 0, none⟩)]), .int .u64 (t : Int), .int .u64 (vi : Int), .int .i64 nn, .int .u64 (val : Int)] wr fun e w' => e = .returned (.agg #[.int .i64 (stA (rs ++ ds) p.1 t vi nn).1, .int .u64 ((stA (rs ++ ds) p.1 t vi nn).2 : Int)]) ∧ Hid (GMt w0 w' base m v vr vd rs ds (stHt (rs ++ ds) t vi val nn p) q (n + 32) k) ∧ Hid (Bx base wr w') := by
  by_cases hw : 0 ≤ nn ∧ Wide nn.toNat
  · obtain ⟨kk, rfl⟩ : ∃ kk : Nat, nn = (kk : Int) := ⟨nn.toNat, by omega⟩
    have hw2 : Wide kk := by have := hw.2; rwa [Int.toNat_natCast] at this
    obtain ⟨vp1, ps1, vp2, ps2, X', h1, g1, hX', h7, g2, hd0, h5⟩ := h
    rw [stA, stHt, if_pos hw, if_pos hw, Int.toNat_natCast]
    refine (wstore_t (v := vi) (val := val) h1 (by omega) ht hval (by omega) hw2).mono ?_
    rintro e w' (⟨why, x, hre, rfl, hy, hk⟩ | ⟨hre, _, rfl, vp', ps', hy, hk, hn⟩)
    · rw [hre]
      obtain ⟨r1, r2⟩ := gt_pack1 (p' := p) h1 hX' h7 g2 hd0 h5 (Kf.one hk) hy g1
      exact ⟨rfl, r1, r2⟩
    · rw [hre]
      obtain ⟨r1, r2⟩ := gt_pack1 (p' := (stM (rs ++ ds) p.1 t vi val kk, p.2.1, p.2.2.1 + kk, stN (rs ++ ds) p.1 t vi p.2.2.2 kk)) h1 hX' h7 g2 hd0 h5 hk hy (by rw [hn, g1])
      exact ⟨rfl, r1, r2⟩
  · rw [stA, stHt, if_neg hw, if_neg hw]
    refine (wstore_no (not_wide_of hw) wr).mono ?_
    rintro e w' ⟨rfl, hb⟩
    exact ⟨rfl, (h.below hb).mono (by omega) (Nat.le_refl _), Bx.below hb⟩
theorem gt_st2 {t vi val : Nat} {nn : Int} (h : GMt w0 wr base m v vr vd rs ds p q n k) (ht : t ≤ 18446744073709551615) (hval : val ≤ 18446744073709551615) (hn : k ≤ 4611686018427370000) (hS : q.2.2.1 ≤ 4611686018427360000) :
    Calls Tryz.prog 25 #[.pointer (some ⟨v, 0, none⟩), .int .u64 (t : Int), .int .u64 (vi : Int), .int .i64 nn, .int .u64 (val : Int)] wr fun e w' => e = .returned (.agg #[.int .i64 (stA (rs ++ ds) q.1 t vi nn).1, .int .u64 ((stA (rs ++ ds) q.1 t vi nn).2 : Int)]) ∧ Hid (GMt w0 w' base m v vr vd rs ds p (stHt (rs ++ ds) t vi val nn q) n k) ∧ Hid (Bx base wr w') := by
  by_cases hw : 0 ≤ nn ∧ Wide nn.toNat
  · obtain ⟨kk, rfl⟩ : ∃ kk : Nat, nn = (kk : Int) := ⟨nn.toNat, by omega⟩
    have hw2 : Wide kk := by have := hw.2; rwa [Int.toNat_natCast] at this
    obtain ⟨h6, hr, hd, hs, hl, h4⟩ := h.low
    obtain ⟨vp1, ps1, vp2, ps2, X', h1, g1, hX', h7, g2, hd0, h5⟩ := h
    rw [stA, stHt, if_pos hw, if_pos hw, Int.toNat_natCast]
    refine (rst_f h7 h6 h4 h5 (Nat.le_trans h4 h7.1) h7.2.1.lt hr hd hs hl (by omega) (by omega) ht hval hw2).mono ?_
    rintro e w' (⟨why, x, hre, rfl, vp', ps', hm, hk, hn⟩ | ⟨hre, rfl, vp', ps', hm, hk, hn⟩)
    · rw [hre]
      obtain ⟨r1, r2⟩ := gt_pack2 (q' := q) h1 g1 h7 hd0 h5 hk hX' hm (by rw [hn, g2])
      exact ⟨rfl, r1, r2⟩
    · rw [hre]
      obtain ⟨r1, r2⟩ := gt_pack2 (q' := (stM (rs ++ ds) q.1 t vi val kk, q.2.1, q.2.2.1 + kk, stN (rs ++ ds) q.1 t vi q.2.2.2 kk)) h1 g1 h7 hd0 h5 hk hX' hm (by rw [hn, g2])
      exact ⟨rfl, r1, r2⟩
  · rw [stA, stHt, if_neg hw, if_neg hw]
    refine (rst_no (not_wide_of hw) wr).mono ?_
    rintro e w' ⟨rfl, hb⟩
    exact ⟨rfl, h.below hb, Bx.below hb⟩
theorem gt_lay1 {a val : Nat} (h : GMt w0 wr base m v vr vd rs ds p q n k) (ha : a ≤ 18446744073709551615) (hn : n ≤ 4611686018427370000) (hS : p.2.2.1 ≤ 4611686018427387904) :
    Calls Tryz.prog 143 #[.agg #[.pointer (some ⟨m, 0, none⟩)], .int .u64 (a : Int), .int .i64 8, .int .u64 (val : Int)] wr fun e w' => e = .returned (.agg #[.int .i64 (layA (rs ++ ds) a).1, .int .u64 (layA (rs ++ ds) a).2]) ∧ Hid (GMt w0 w' base m v vr vd rs ds (stFt (rs ++ ds) a val p) q (n + 1) k) ∧ Hid (Bx base wr w') := by
  obtain ⟨vp1, ps1, vp2, ps2, X', h1, g1, hX', h7, g2, hd0, h5⟩ := h
  obtain ⟨X, hX, hx⟩ := id h1
  refine (tstore_any (k := 8) (val := val) hx ha (.inr (.inr (.inr rfl))) (by omega) hS h5).mono ?_
  rintro e w' ⟨x, b, ho, rfl, hb1, hb2⟩
  rw [layA_is ho, stFt_off ho]
  cases b with
  | true =>
    obtain ⟨r1, r2⟩ := gt_pack1 (p' := p) (n' := n + 1) h1 hX' h7 g2 hd0 h5 (hb1 rfl).2 ⟨X + 1, by omega, (hb1 rfl).1⟩ g1
    exact ⟨rfl, r1, r2⟩
  | false =>
    obtain ⟨vp', ps', hy, hk, hn⟩ := hb2 rfl
    obtain ⟨r1, r2⟩ := gt_pack1 (p' := (putAt p.1 a ((Pl.le 8 val).take 8), p.2.1, p.2.2.1 + 1, addN p.2.2.2 a 8)) (n' := n + 1) h1 hX' h7 g2 hd0 h5 hk ⟨X, by omega, hy⟩ (by rw [hn, g1])
    exact ⟨rfl, r1, r2⟩
theorem gt_lay2 {a val : Nat} (h : GMt w0 wr base m v vr vd rs ds p q n k) (ha : a ≤ 18446744073709551615) (hn : k ≤ 4611686018427387904) (hS : q.2.2.1 ≤ 4611686018427387904) :
    Calls Tryz.prog 11 #[.pointer (some ⟨v, 0, none⟩), .int .u64 (a : Int), .int .i64 8, .int .u64 (val : Int)] wr fun e w' => e = .returned (.agg #[.int .i64 (layA (rs ++ ds) a).1, .int .u64 (layA (rs ++ ds) a).2]) ∧ Hid (GMt w0 w' base m v vr vd rs ds p (stFt (rs ++ ds) a val q) n (k + 1)) ∧ Hid (Bx base wr w') := by
  obtain ⟨h6, hr, hd, hs, hl, h4⟩ := h.low
  obtain ⟨vp1, ps1, vp2, ps2, X', h1, g1, hX', h7, g2, hd0, h5⟩ := h
  refine (rstore_f (n := 8) (val := val) h7 (.inr (.inr (.inr rfl))) h5 (hr.below h6 (Nat.le_refl _)) (hd.below h6 (Nat.le_refl _)) hs hl ha (by omega) hS).mono ?_
  rintro e w' ⟨x, b, ho, rfl, hb1, hb2⟩
  rw [layA_is ho, stFt_off ho]
  cases b with
  | true =>
    obtain ⟨r1, r2⟩ := gt_pack2 (q' := q) (k' := k + 1) h1 g1 h7 hd0 h5 (hb1 rfl).2 (Nat.succ_le_succ hX') (hb1 rfl).1 g2
    exact ⟨rfl, r1, r2⟩
  | false =>
    obtain ⟨vp', ps', hy, hk, hn⟩ := hb2 rfl
    obtain ⟨r1, r2⟩ := gt_pack2 (q' := (putAt q.1 a ((Pl.le 8 val).take 8), q.2.1, q.2.2.1 + 1, addN q.2.2.2 a 8)) (k' := k + 1) h1 g1 h7 hd0 h5 hk (Nat.le_succ_of_le hX') hy (by rw [hn, g2])
    exact ⟨rfl, r1, r2⟩
theorem gt_lay3 {a val : Nat} (h : GMt w0 wr base m v vr vd rs ds p q n k) (ha : a ≤ 18446744073709551615) (hn : n ≤ 4611686018427387904) (hS : p.2.2.1 ≤ 4611686018427387904) :
    Calls Tryz.prog 11 #[.pointer (some ⟨m, 0, none⟩), .int .u64 (a : Int), .int .i64 8, .int .u64 (val : Int)] wr fun e w' => e = .returned (.agg #[.int .i64 (layA (rs ++ ds) a).1, .int .u64 (layA (rs ++ ds) a).2]) ∧ Hid (GMt w0 w' base m v vr vd rs ds (stFt (rs ++ ds) a val p) q (n + 1) k) ∧ Hid (Bx base wr w') := by
  obtain ⟨h6, hr, hd, hs, hl, h4⟩ := h.low
  obtain ⟨vp1, ps1, vp2, ps2, X', h1, g1, hX', h7, g2, hd0, h5⟩ := h
  obtain ⟨X, hX, hx⟩ := id h1
  refine (rstore_f (n := 8) (val := val) hx.1 (.inr (.inr (.inr rfl))) h5 (hr.below h6 (Nat.le_refl _)) (hd.below h6 (Nat.le_refl _)) hs hl ha (by omega) hS).mono ?_
  rintro e w' ⟨x, b, ho, rfl, hb1, hb2⟩
  have hlow : ∀ vp' ps', Kf m vp1 ps1 wr vp' ps' w' → Below w0.heap.size w0 w' := fun _ _ hk => below_keeps h6 hk.keeps (fun j e => Nat.le_trans h4 (hx.1.fo e).1)
  rw [layA_is ho, stFt_off ho]
  cases b with
  | true =>
    obtain ⟨r1, r2⟩ := gt_pack1 (p' := p) (n' := n + 1) h1 hX' h7 g2 hd0 h5 (hb1 rfl).2 ⟨X + 1, by omega, (hb1 rfl).1, hlow _ _ (hb1 rfl).2, hr, hd, hs, hl, h4⟩ g1
    exact ⟨rfl, r1, r2⟩
  | false =>
    obtain ⟨vp', ps', hy, hk, hn⟩ := hb2 rfl
    obtain ⟨r1, r2⟩ := gt_pack1 (p' := (putAt p.1 a ((Pl.le 8 val).take 8), p.2.1, p.2.2.1 + 1, addN p.2.2.2 a 8)) (n' := n + 1) h1 hX' h7 g2 hd0 h5 hk ⟨X, by omega, hy, hlow _ _ hk, hr, hd, hs, hl, h4⟩ (by rw [hn, g1])
    exact ⟨rfl, r1, r2⟩
end
end Go.Proofs.YtdkhhofgfbnmkaaGreat
/- WalkForeign: a step, but Leaves. Own work. -/
namespace Go.Proofs.YtdkhhofgfbnmkaaGreat
open Go.RowKit Go.Maps Go.Proofs.YtdkhhofgfbnmkaaGreat.Sp Wk Lv
/-- what a step leaves -/
def StepT (w0 : World) (base m v : Nat) (vr vd : Value) (rs ds : List Sp) (p : Ht) (n k : Nat) (e : Ending) (w' : World) : Prop :=
  e = .returned (.bool true) ∧ ∃ p', Hid (GMt w0 w' base m v vr vd rs ds p' p' (n + 4000) (k + 1)) ∧ p'.2.1 ≤ p.2.1 + 8 ∧ p'.2.2.1 ≤ p.2.2.1 + 8
set_option maxRecDepth 100000 in
set_option maxHeartbeats 4000000 in
theorem stept_tr {w0 wr : World} {base m v : Nat} {vr vd : Value} {rs ds : List Sp} {p : Ht} {n k : Nat} {nn : Int} {rt vt vl : Nat} (h : GMt w0 wr base m v vr vd rs ds p p n k) (ht : rt ≤ 18446744073709551615) (hv : vt ≤ 18446744073709551615) (hn : n ≤ 4000000000000000000) (hk : k ≤ 4000000000000000000) :
    Calls Tryz.prog 8 #[.iface 46 (.agg #[.pointer (some ⟨m, 0, none⟩)]), .pointer (some ⟨v, 0, none⟩), .agg #[.int .i64 1, .int .u64 (rt : Int), .int .u64 (vt : Int), .int .u64 (vl : Int), .int .i64 nn]] wr (StepT w0 base m v vr vd rs ds p n k) := by
  have hbs := h.hbase
  obtain ⟨W1, hW1⟩ : ∃ W1, wr.alloc (Obj.cells #[.int .i64 1, .int .u64 (rt : Int), .int .u64 (vt : Int), .int .u64 (vl : Int), .int .i64 nn] 36) = W1 := ⟨_, rfl⟩
  have hb1 : Below wr.heap.size wr W1 := hW1 ▸ (Below.refl _ _).alloc (Nat.le_refl _) _
  have HO1 : Hid (OpAt W1 wr.heap.size 1 rt vt vl nn) := hW1 ▸ OpAt.new wr 1 rt vt vl nn
  have HG1 : Hid (GMt w0 W1 base m v vr vd rs ds p p n k) := h.below hb1
  have HC1 : Hid (∀ W, GMt w0 W base m v vr vd rs ds p p n k → Calls Tryz.prog 20 #[.iface 46 (.agg #[.pointer (some ⟨m, 0, none⟩)]), .int .u64 (rt : Int), .int .u64 (vt : Int), .int .i64 nn] W fun e w' => e = .returned (.tuple #[.int .u64 ((adrF (rs ++ ds) p.1 rt vt nn).1 : Int), .agg #[.int .i64 (adrF (rs ++ ds) p.1 rt vt nn).2, .int .u64 (whyAt (adrF (rs ++ ds) p.1 rt vt nn).2 vt : Int)]]) ∧ Hid (GMt w0 w' base m v vr vd rs ds p p (n + 1) k) ∧ Hid (Bx base W w')) := fun W hW => gt_tr1 hW ht hv (by omega)
  have HC2 : Hid (∀ W, GMt w0 W base m v vr vd rs ds p p (n + 1) k → Calls Tryz.prog 21 #[.pointer (some ⟨v, 0, none⟩), .int .u64 (rt : Int), .int .u64 (vt : Int), .int .i64 nn] W fun e w' => e = .returned (.tuple #[.int .u64 ((adrF (rs ++ ds) p.1 rt vt nn).1 : Int), .agg #[.int .i64 (adrF (rs ++ ds) p.1 rt vt nn).2, .int .u64 (whyAt (adrF (rs ++ ds) p.1 rt vt nn).2 vt : Int)]]) ∧ Hid (GMt w0 w' base m v vr vd rs ds p p (n + 1) k) ∧ Hid (Bx base W w')) := fun W hW => gt_tr2 hW ht hv (by omega)
  have HSm : Hid (∀ a b W, Calls Tryz.prog 22 #[.agg #[.int .i64 a, .int .u64 b], .agg #[.int .i64 a, .int .u64 b]] W fun e w' => e = .returned (.bool true) ∧ Below W.heap.size W w') := same_one
  obtain ⟨num, hnum⟩ : ∃ num : Nat, num = (adrF (rs ++ ds) p.1 rt vt nn).1 := ⟨_, rfl⟩
  obtain ⟨why, hwhy⟩ : ∃ why : Int, why = (adrF (rs ++ ds) p.1 rt vt nn).2 := ⟨_, rfl⟩
  obtain ⟨xx, hxx⟩ : ∃ xx : Int, xx = (whyAt (adrF (rs ++ ds) p.1 rt vt nn).2 vt : Int) := ⟨_, rfl⟩
  rw [← hnum, ← hxx, ← hwhy] at HC1 HC2
  clear hnum hwhy hxx
  obtain ⟨PP, hPP⟩ : ∃ PP : Ht, PP = p := ⟨_, rfl⟩
  have HLe : Hid (PP.2.1 ≤ p.2.1 + 8 ∧ PP.2.2.1 ≤ p.2.2.1 + 8) := by
    show _ ∧ _
    rw [hPP]
    exact ⟨by omega, by omega⟩
  rw [← hPP] at HC1 HC2
  rw [← hPP] at HG1
  clear hPP
  clear h hb1
  obtain ⟨o0, o1, o2, o3, o4⟩ := HO1.out.cells
  go_enter Tryz.func8, Tryz.ntmps8
  go_wp2_with fail
  clear hW1
  refine (HC1.out W1 HG1.out).mono ?_
  rintro e w2 ⟨rfl, HG2, HX2⟩
  have HO2 := Lib.hid (HO1.out.bx HX2.out hbs)
  have hl2 : wr.heap.size < w2.heap.size := (Array.getElem?_eq_some_iff.1 (show w2.heap[wr.heap.size]? = _ from HO2.out)).1
  clear HC1 HO1 HG1 HX2 o0 o1 o2 o3 o4
  go_upto_region 4 with fail
  obtain ⟨W3, hW3⟩ : ∃ W3, w2.alloc (Obj.cells #[.int .i64 why, .int .u64 xx] 57) = W3 := ⟨_, rfl⟩
  have hb3 : Below w2.heap.size w2 W3 := hW3 ▸ (Below.refl _ _).alloc (Nat.le_refl _) _
  have HF3 : Hid (BoxF W3 w2.heap.size why xx) := hW3 ▸ BoxF.new w2 why xx
  have HO3 := Lib.hid (HO2.out.below hb3)
  have HG3 := Lib.hid (HG2.out.below hb3)
  rw [hW3]
  clear hW3 HG2 HO2 hb3
  obtain ⟨o0, o1, o2, o3, o4⟩ := HO3.out.cells
  go_wp2_with fail
  refine (HC2.out W3 HG3.out).mono ?_
  rintro e w4 ⟨rfl, HG4, HX4⟩
  have HF4 : Hid (BoxF w4 w2.heap.size why xx) := HF3.out.bx HX4.out (by omega)
  clear HC2 HO3 HG3 HX4 HF3 o0 o1 o2 o3 o4
  go_upto_region 5 with fail
  obtain ⟨W5, hW5⟩ : ∃ W5, w4.alloc (Obj.cells #[.int .i64 why, .int .u64 xx] 41) = W5 := ⟨_, rfl⟩
  have hb5 : Below w4.heap.size w4 W5 := hW5 ▸ (Below.refl _ _).alloc (Nat.le_refl _) _
  have HF5 : Hid (BoxF W5 w2.heap.size why xx) := HF4.out.below hb5
  have HH5 : Hid (BoxG W5 w4.heap.size why xx) := hW5 ▸ BoxG.new w4 why xx
  have HG5 := Lib.hid (HG4.out.below hb5)
  rw [hW5]
  clear hW5 HG4 HF4 hb5
  obtain ⟨f0, f1, _, _⟩ := HF5.out.cells
  obtain ⟨g0, g1, _, _⟩ := HH5.out.cells
  go_wp2_with fail
  refine (HSm.out _ _ W5).mono ?_
  rintro e w6 ⟨rfl, hb6⟩
  have HG6 := Lib.hid (HG5.out.below hb6)
  clear HSm HG5 hb6 f0 f1 g0 g1
  go_wp2_with fail
  go_ret
  exact ⟨rfl, _, Lib.hid (HG6.out.mono (by omega) (by omega)), HLe.out⟩
set_option maxRecDepth 100000 in
set_option maxHeartbeats 4000000 in
theorem stept_ld {w0 wr : World} {base m v : Nat} {vr vd : Value} {rs ds : List Sp} {p : Ht} {n k : Nat} {nn : Int} {rt vt vl : Nat} (h : GMt w0 wr base m v vr vd rs ds p p n k) (ht : rt ≤ 18446744073709551615) (hn : n ≤ 4000000000000000000) (hk : k ≤ 4000000000000000000) (hL : p.2.1 ≤ 4000000000000000000) :
    Calls Tryz.prog 8 #[.iface 46 (.agg #[.pointer (some ⟨m, 0, none⟩)]), .pointer (some ⟨v, 0, none⟩), .agg #[.int .i64 2, .int .u64 (rt : Int), .int .u64 (vt : Int), .int .u64 (vl : Int), .int .i64 nn]] wr (StepT w0 base m v vr vd rs ds p n k) := by
  have hbs := h.hbase
  obtain ⟨W1, hW1⟩ : ∃ W1, wr.alloc (Obj.cells #[.int .i64 2, .int .u64 (rt : Int), .int .u64 (vt : Int), .int .u64 (vl : Int), .int .i64 nn] 36) = W1 := ⟨_, rfl⟩
  have hb1 : Below wr.heap.size wr W1 := hW1 ▸ (Below.refl _ _).alloc (Nat.le_refl _) _
  have HO1 : Hid (OpAt W1 wr.heap.size 2 rt vt vl nn) := hW1 ▸ OpAt.new wr 2 rt vt vl nn
  have HG1 : Hid (GMt w0 W1 base m v vr vd rs ds p p n k) := h.below hb1
  have HC1 : Hid (∀ W, GMt w0 W base m v vr vd rs ds p p n k → Calls Tryz.prog 14 #[.iface 46 (.agg #[.pointer (some ⟨m, 0, none⟩)]), .int .u64 (rt : Int), .int .u64 (vt : Int), .int .i64 nn] W fun e w' => e = .returned (.tuple #[.int .u64 ((ldA (rs ++ ds) p.1 rt vt 1 nn).1 : Int), .agg #[.int .i64 (ldA (rs ++ ds) p.1 rt vt 1 nn).2.1, .int .u64 ((ldA (rs ++ ds) p.1 rt vt 1 nn).2.2 : Int)]]) ∧ Hid (GMt w0 w' base m v vr vd rs ds (p.1, p.2.1 + ldC (rs ++ ds) p.1 rt vt 1 nn, p.2.2) p (n + 32) k) ∧ Hid (Bx base W w')) := fun W hW => gt_ld1 hW ht (by omega) (by omega)
  have HC2 : Hid (∀ W, GMt w0 W base m v vr vd rs ds (p.1, p.2.1 + ldC (rs ++ ds) p.1 rt vt 1 nn, p.2.2) p (n + 32) k → Calls Tryz.prog 23 #[.pointer (some ⟨v, 0, none⟩), .int .u64 (rt : Int), .int .u64 (vt : Int), .int .i64 nn, .int .i64 1] W fun e w' => e = .returned (.tuple #[.int .u64 ((ldA (rs ++ ds) p.1 rt vt 1 nn).1 : Int), .agg #[.int .i64 (ldA (rs ++ ds) p.1 rt vt 1 nn).2.1, .int .u64 ((ldA (rs ++ ds) p.1 rt vt 1 nn).2.2 : Int)]]) ∧ Hid (GMt w0 w' base m v vr vd rs ds (p.1, p.2.1 + ldC (rs ++ ds) p.1 rt vt 1 nn, p.2.2) (p.1, p.2.1 + ldC (rs ++ ds) p.1 rt vt 1 nn, p.2.2) (n + 32) k) ∧ Hid (Bx base W w')) := fun W hW => gt_ld2 hW ht (by omega) (by omega)
  have HSm : Hid (∀ a b W, Calls Tryz.prog 22 #[.agg #[.int .i64 a, .int .u64 b], .agg #[.int .i64 a, .int .u64 b]] W fun e w' => e = .returned (.bool true) ∧ Below W.heap.size W w') := same_one
  obtain ⟨num, hnum⟩ : ∃ num : Nat, num = (ldA (rs ++ ds) p.1 rt vt 1 nn).1 := ⟨_, rfl⟩
  obtain ⟨why, hwhy⟩ : ∃ why : Int, why = (ldA (rs ++ ds) p.1 rt vt 1 nn).2.1 := ⟨_, rfl⟩
  obtain ⟨xx, hxx⟩ : ∃ xx : Int, xx = ((ldA (rs ++ ds) p.1 rt vt 1 nn).2.2 : Int) := ⟨_, rfl⟩
  rw [← hnum, ← hxx, ← hwhy] at HC1 HC2
  clear hnum hwhy hxx
  obtain ⟨PP, hPP⟩ : ∃ PP : Ht, PP = (p.1, p.2.1 + ldC (rs ++ ds) p.1 rt vt 1 nn, p.2.2) := ⟨_, rfl⟩
  have HLe : Hid (PP.2.1 ≤ p.2.1 + 8 ∧ PP.2.2.1 ≤ p.2.2.1 + 8) := by
    show _ ∧ _
    rw [hPP]
    exact ⟨Nat.add_le_add_left (ldC_le _ _ _ _ _ _) _, Nat.le_add_right _ _⟩
  rw [← hPP] at HC1 HC2
  clear hPP
  clear h hb1
  obtain ⟨o0, o1, o2, o3, o4⟩ := HO1.out.cells
  go_enter Tryz.func8, Tryz.ntmps8
  go_wp2_with fail
  clear hW1
  refine (HC1.out W1 HG1.out).mono ?_
  rintro e w2 ⟨rfl, HG2, HX2⟩
  have HO2 := Lib.hid (HO1.out.bx HX2.out hbs)
  have hl2 : wr.heap.size < w2.heap.size := (Array.getElem?_eq_some_iff.1 (show w2.heap[wr.heap.size]? = _ from HO2.out)).1
  clear HC1 HO1 HG1 HX2 o0 o1 o2 o3 o4
  go_upto_region 8 with fail
  obtain ⟨W3, hW3⟩ : ∃ W3, w2.alloc (Obj.cells #[.int .i64 why, .int .u64 xx] 57) = W3 := ⟨_, rfl⟩
  have hb3 : Below w2.heap.size w2 W3 := hW3 ▸ (Below.refl _ _).alloc (Nat.le_refl _) _
  have HF3 : Hid (BoxF W3 w2.heap.size why xx) := hW3 ▸ BoxF.new w2 why xx
  have HO3 := Lib.hid (HO2.out.below hb3)
  have HG3 := Lib.hid (HG2.out.below hb3)
  rw [hW3]
  clear hW3 HG2 HO2 hb3
  obtain ⟨o0, o1, o2, o3, o4⟩ := HO3.out.cells
  go_wp2_with fail
  refine (HC2.out W3 HG3.out).mono ?_
  rintro e w4 ⟨rfl, HG4, HX4⟩
  have HF4 : Hid (BoxF w4 w2.heap.size why xx) := HF3.out.bx HX4.out (by omega)
  clear HC2 HO3 HG3 HX4 HF3 o0 o1 o2 o3 o4
  go_upto_region 9 with fail
  obtain ⟨W5, hW5⟩ : ∃ W5, w4.alloc (Obj.cells #[.int .i64 why, .int .u64 xx] 41) = W5 := ⟨_, rfl⟩
  have hb5 : Below w4.heap.size w4 W5 := hW5 ▸ (Below.refl _ _).alloc (Nat.le_refl _) _
  have HF5 : Hid (BoxF W5 w2.heap.size why xx) := HF4.out.below hb5
  have HH5 : Hid (BoxG W5 w4.heap.size why xx) := hW5 ▸ BoxG.new w4 why xx
  have HG5 := Lib.hid (HG4.out.below hb5)
  rw [hW5]
  clear hW5 HG4 HF4 hb5
  obtain ⟨f0, f1, _, _⟩ := HF5.out.cells
  obtain ⟨g0, g1, _, _⟩ := HH5.out.cells
  go_wp2_with fail
  refine (HSm.out _ _ W5).mono ?_
  rintro e w6 ⟨rfl, hb6⟩
  have HG6 := Lib.hid (HG5.out.below hb6)
  clear HSm HG5 hb6 f0 f1 g0 g1
  go_wp2_with fail
  go_ret
  exact ⟨rfl, _, Lib.hid (HG6.out.mono (by omega) (by omega)), HLe.out⟩
set_option maxRecDepth 100000 in
set_option maxHeartbeats 4000000 in
theorem stept_ft {w0 wr : World} {base m v : Nat} {vr vd : Value} {rs ds : List Sp} {p : Ht} {n k : Nat} {nn : Int} {rt vt vl : Nat} (h : GMt w0 wr base m v vr vd rs ds p p n k) (ht : rt ≤ 18446744073709551615) (hn : n ≤ 4000000000000000000) (hk : k ≤ 4000000000000000000) (hL : p.2.1 ≤ 4000000000000000000) :
    Calls Tryz.prog 8 #[.iface 46 (.agg #[.pointer (some ⟨m, 0, none⟩)]), .pointer (some ⟨v, 0, none⟩), .agg #[.int .i64 4, .int .u64 (rt : Int), .int .u64 (vt : Int), .int .u64 (vl : Int), .int .i64 nn]] wr (StepT w0 base m v vr vd rs ds p n k) := by
  have hbs := h.hbase
  obtain ⟨W1, hW1⟩ : ∃ W1, wr.alloc (Obj.cells #[.int .i64 4, .int .u64 (rt : Int), .int .u64 (vt : Int), .int .u64 (vl : Int), .int .i64 nn] 36) = W1 := ⟨_, rfl⟩
  have hb1 : Below wr.heap.size wr W1 := hW1 ▸ (Below.refl _ _).alloc (Nat.le_refl _) _
  have HO1 : Hid (OpAt W1 wr.heap.size 4 rt vt vl nn) := hW1 ▸ OpAt.new wr 4 rt vt vl nn
  have HG1 : Hid (GMt w0 W1 base m v vr vd rs ds p p n k) := h.below hb1
  have HC1 : Hid (∀ W, GMt w0 W base m v vr vd rs ds p p n k → Calls Tryz.prog 15 #[.iface 46 (.agg #[.pointer (some ⟨m, 0, none⟩)]), .int .u64 (rt : Int), .int .u64 (vt : Int), .int .i64 nn] W fun e w' => e = .returned (.tuple #[.int .u64 ((ldA (rs ++ ds) p.1 rt vt 3 nn).1 : Int), .agg #[.int .i64 (ldA (rs ++ ds) p.1 rt vt 3 nn).2.1, .int .u64 ((ldA (rs ++ ds) p.1 rt vt 3 nn).2.2 : Int)]]) ∧ Hid (GMt w0 w' base m v vr vd rs ds (p.1, p.2.1 + ldC (rs ++ ds) p.1 rt vt 3 nn, p.2.2) p (n + 32) k) ∧ Hid (Bx base W w')) := fun W hW => gt_ft1 hW ht (by omega) (by omega)
  have HC2 : Hid (∀ W, GMt w0 W base m v vr vd rs ds (p.1, p.2.1 + ldC (rs ++ ds) p.1 rt vt 3 nn, p.2.2) p (n + 32) k → Calls Tryz.prog 23 #[.pointer (some ⟨v, 0, none⟩), .int .u64 (rt : Int), .int .u64 (vt : Int), .int .i64 nn, .int .i64 3] W fun e w' => e = .returned (.tuple #[.int .u64 ((ldA (rs ++ ds) p.1 rt vt 3 nn).1 : Int), .agg #[.int .i64 (ldA (rs ++ ds) p.1 rt vt 3 nn).2.1, .int .u64 ((ldA (rs ++ ds) p.1 rt vt 3 nn).2.2 : Int)]]) ∧ Hid (GMt w0 w' base m v vr vd rs ds (p.1, p.2.1 + ldC (rs ++ ds) p.1 rt vt 3 nn, p.2.2) (p.1, p.2.1 + ldC (rs ++ ds) p.1 rt vt 3 nn, p.2.2) (n + 32) k) ∧ Hid (Bx base W w')) := fun W hW => gt_ld2 hW ht (by omega) (by omega)
  have HSm : Hid (∀ a b W, Calls Tryz.prog 22 #[.agg #[.int .i64 a, .int .u64 b], .agg #[.int .i64 a, .int .u64 b]] W fun e w' => e = .returned (.bool true) ∧ Below W.heap.size W w') := same_one
  obtain ⟨num, hnum⟩ : ∃ num : Nat, num = (ldA (rs ++ ds) p.1 rt vt 3 nn).1 := ⟨_, rfl⟩
  obtain ⟨why, hwhy⟩ : ∃ why : Int, why = (ldA (rs ++ ds) p.1 rt vt 3 nn).2.1 := ⟨_, rfl⟩
  obtain ⟨xx, hxx⟩ : ∃ xx : Int, xx = ((ldA (rs ++ ds) p.1 rt vt 3 nn).2.2 : Int) := ⟨_, rfl⟩
  rw [← hnum, ← hxx, ← hwhy] at HC1 HC2
  clear hnum hwhy hxx
  obtain ⟨PP, hPP⟩ : ∃ PP : Ht, PP = (p.1, p.2.1 + ldC (rs ++ ds) p.1 rt vt 3 nn, p.2.2) := ⟨_, rfl⟩
  have HLe : Hid (PP.2.1 ≤ p.2.1 + 8 ∧ PP.2.2.1 ≤ p.2.2.1 + 8) := by
    show _ ∧ _
    rw [hPP]
    exact ⟨Nat.add_le_add_left (ldC_le _ _ _ _ _ _) _, Nat.le_add_right _ _⟩
  rw [← hPP] at HC1 HC2
  clear hPP
  clear h hb1
  obtain ⟨o0, o1, o2, o3, o4⟩ := HO1.out.cells
  go_enter Tryz.func8, Tryz.ntmps8
  go_wp2_with fail
  clear hW1
  refine (HC1.out W1 HG1.out).mono ?_
  rintro e w2 ⟨rfl, HG2, HX2⟩
  have HO2 := Lib.hid (HO1.out.bx HX2.out hbs)
  have hl2 : wr.heap.size < w2.heap.size := (Array.getElem?_eq_some_iff.1 (show w2.heap[wr.heap.size]? = _ from HO2.out)).1
  clear HC1 HO1 HG1 HX2 o0 o1 o2 o3 o4
  go_upto_region 12 with fail
  obtain ⟨W3, hW3⟩ : ∃ W3, w2.alloc (Obj.cells #[.int .i64 why, .int .u64 xx] 57) = W3 := ⟨_, rfl⟩
  have hb3 : Below w2.heap.size w2 W3 := hW3 ▸ (Below.refl _ _).alloc (Nat.le_refl _) _
  have HF3 : Hid (BoxF W3 w2.heap.size why xx) := hW3 ▸ BoxF.new w2 why xx
  have HO3 := Lib.hid (HO2.out.below hb3)
  have HG3 := Lib.hid (HG2.out.below hb3)
  rw [hW3]
  clear hW3 HG2 HO2 hb3
  obtain ⟨o0, o1, o2, o3, o4⟩ := HO3.out.cells
  go_wp2_with fail
  refine (HC2.out W3 HG3.out).mono ?_
  rintro e w4 ⟨rfl, HG4, HX4⟩
  have HF4 : Hid (BoxF w4 w2.heap.size why xx) := HF3.out.bx HX4.out (by omega)
  clear HC2 HO3 HG3 HX4 HF3 o0 o1 o2 o3 o4
  go_upto_region 13 with fail
  obtain ⟨W5, hW5⟩ : ∃ W5, w4.alloc (Obj.cells #[.int .i64 why, .int .u64 xx] 41) = W5 := ⟨_, rfl⟩
  have hb5 : Below w4.heap.size w4 W5 := hW5 ▸ (Below.refl _ _).alloc (Nat.le_refl _) _
  have HF5 : Hid (BoxF W5 w2.heap.size why xx) := HF4.out.below hb5
  have HH5 : Hid (BoxG W5 w4.heap.size why xx) := hW5 ▸ BoxG.new w4 why xx
  have HG5 := Lib.hid (HG4.out.below hb5)
  rw [hW5]
  clear hW5 HG4 HF4 hb5
  obtain ⟨f0, f1, _, _⟩ := HF5.out.cells
  obtain ⟨g0, g1, _, _⟩ := HH5.out.cells
  go_wp2_with fail
  refine (HSm.out _ _ W5).mono ?_
  rintro e w6 ⟨rfl, hb6⟩
  have HG6 := Lib.hid (HG5.out.below hb6)
  clear HSm HG5 hb6 f0 f1 g0 g1
  go_wp2_with fail
  go_ret
  exact ⟨rfl, _, Lib.hid (HG6.out.mono (by omega) (by omega)), HLe.out⟩
set_option maxRecDepth 100000 in
set_option maxHeartbeats 4000000 in
theorem stept_st {w0 wr : World} {base m v : Nat} {vr vd : Value} {rs ds : List Sp} {p : Ht} {n k : Nat} {nn : Int} {rt vt vl : Nat} (h : GMt w0 wr base m v vr vd rs ds p p n k) (ht : rt ≤ 18446744073709551615) (hval : vl ≤ 18446744073709551615) (hn : n ≤ 4000000000000000000) (hk : k ≤ 4000000000000000000) (hS : p.2.2.1 ≤ 4000000000000000000) :
    Calls Tryz.prog 8 #[.iface 46 (.agg #[.pointer (some ⟨m, 0, none⟩)]), .pointer (some ⟨v, 0, none⟩), .agg #[.int .i64 3, .int .u64 (rt : Int), .int .u64 (vt : Int), .int .u64 (vl : Int), .int .i64 nn]] wr (StepT w0 base m v vr vd rs ds p n k) := by
  have hbs := h.hbase
  obtain ⟨W1, hW1⟩ : ∃ W1, wr.alloc (Obj.cells #[.int .i64 3, .int .u64 (rt : Int), .int .u64 (vt : Int), .int .u64 (vl : Int), .int .i64 nn] 36) = W1 := ⟨_, rfl⟩
  have hb1 : Below wr.heap.size wr W1 := hW1 ▸ (Below.refl _ _).alloc (Nat.le_refl _) _
  have HO1 : Hid (OpAt W1 wr.heap.size 3 rt vt vl nn) := hW1 ▸ OpAt.new wr 3 rt vt vl nn
  have HG1 : Hid (GMt w0 W1 base m v vr vd rs ds p p n k) := h.below hb1
  have HC1 : Hid (∀ W, GMt w0 W base m v vr vd rs ds p p n k → Calls Tryz.prog 24 #[.iface 46 (.agg #[.pointer (some ⟨m, 0, none⟩)]), .int .u64 (rt : Int), .int .u64 (vt : Int), .int .i64 nn, .int .u64 (vl : Int)] W fun e w' => e = .returned (.agg #[.int .i64 (stA (rs ++ ds) p.1 rt vt nn).1, .int .u64 ((stA (rs ++ ds) p.1 rt vt nn).2 : Int)]) ∧ Hid (GMt w0 w' base m v vr vd rs ds (stHt (rs ++ ds) rt vt vl nn p) p (n + 32) k) ∧ Hid (Bx base W w')) := fun W hW => gt_st1 hW ht hval (by omega) (by omega)
  have HC2 : Hid (∀ W, GMt w0 W base m v vr vd rs ds (stHt (rs ++ ds) rt vt vl nn p) p (n + 32) k → Calls Tryz.prog 25 #[.pointer (some ⟨v, 0, none⟩), .int .u64 (rt : Int), .int .u64 (vt : Int), .int .i64 nn, .int .u64 (vl : Int)] W fun e w' => e = .returned (.agg #[.int .i64 (stA (rs ++ ds) p.1 rt vt nn).1, .int .u64 ((stA (rs ++ ds) p.1 rt vt nn).2 : Int)]) ∧ Hid (GMt w0 w' base m v vr vd rs ds (stHt (rs ++ ds) rt vt vl nn p) (stHt (rs ++ ds) rt vt vl nn p) (n + 32) k) ∧ Hid (Bx base W w')) := fun W hW => gt_st2 hW ht hval (by omega) (by omega)
  have HSm : Hid (∀ a b W, Calls Tryz.prog 22 #[.agg #[.int .i64 a, .int .u64 b], .agg #[.int .i64 a, .int .u64 b]] W fun e w' => e = .returned (.bool true) ∧ Below W.heap.size W w') := same_one
  have HLe : Hid ((stHt (rs ++ ds) rt vt vl nn p).2.1 ≤ p.2.1 + 8 ∧ (stHt (rs ++ ds) rt vt vl nn p).2.2.1 ≤ p.2.2.1 + 8) := by
    have := stHt_le (rs ++ ds) rt vt vl nn p
    exact ⟨by omega, this.2⟩
  obtain ⟨why, hwhy⟩ : ∃ why : Int, why = (stA (rs ++ ds) p.1 rt vt nn).1 := ⟨_, rfl⟩
  obtain ⟨xx, hxx⟩ : ∃ xx : Int, xx = ((stA (rs ++ ds) p.1 rt vt nn).2 : Int) := ⟨_, rfl⟩
  rw [← hxx, ← hwhy] at HC1 HC2
  obtain ⟨PP, hPP⟩ : ∃ PP, PP = stHt (rs ++ ds) rt vt vl nn p := ⟨_, rfl⟩
  rw [← hPP] at HC1 HC2 HLe
  clear h hb1 hwhy hxx hPP
  obtain ⟨o0, o1, o2, o3, o4⟩ := HO1.out.cells
  go_enter Tryz.func8, Tryz.ntmps8
  go_wp2_with fail
  clear hW1 o0 o1 o2 o3 o4
  have HOd : Hid (OpAt W1.drew wr.heap.size 3 rt vt vl nn) := HO1.out
  have HGd : Hid (GMt w0 W1.drew base m v vr vd rs ds p p n k) := HG1.out.below (below_drewNn W1 1)
  have HS0 := Lib.hid HOd.out.cells.2
  clear HO1 HG1
  go_region_held3 (fun wx => wx.cell? ⟨wr.heap.size, 1, none⟩ = some (.int .u64 (rt : Int)) ∧ wx.cell? ⟨wr.heap.size, 2, none⟩ = some (.int .u64 (vt : Int)) ∧ wx.cell? ⟨wr.heap.size, 3, none⟩ = some (.int .u64 (vl : Int)) ∧ wx.cell? ⟨wr.heap.size, 4, none⟩ = some (.int .i64 nn)) (first | exact HS3.out | exact HS2.out | exact HS1.out | exact HS0.out)
    (first
      | (go_at_call 24; refine (HC1.out _ HGd.out).mono ?_; rintro e x1 ⟨rfl, HGx, HBx⟩; have HOx := Lib.hid (HOd.out.bx HBx.out hbs); have HS1 := Lib.hid HOx.out.cells.2; clear HC1 HGd)
      | (go_at_call 25; refine (HC2.out _ HGx.out).mono ?_; rintro e x2 ⟨rfl, HGy, HBy⟩; have HOy := Lib.hid (HOx.out.bx HBy.out hbs); have HS2 := Lib.hid HOy.out.cells.2; clear HC2 HGx)
      | (go_at_call 22; refine (HSm.out _ _ _).mono ?_; rintro e x3 ⟨rfl, hb3⟩; have HGz := Lib.hid (HGy.out.below hb3); have HOz := Lib.hid (HOy.out.below hb3); have HS3 := Lib.hid HOz.out.cells.2; clear HSm hb3 HGy))
  all_goals
    go_wp2_with fail
    go_ret
    exact ⟨rfl, _, Lib.hid (HGz.out.mono (by omega) (by omega)), HLe.out⟩
set_option maxRecDepth 100000 in
set_option maxHeartbeats 4000000 in
theorem stept_lay {w0 wr : World} {base m v : Nat} {vr vd : Value} {rs ds : List Sp} {p : Ht} {n k : Nat} {nn : Int} {rt vt vl : Nat} (h : GMt w0 wr base m v vr vd rs ds p p n k) (hv : vt ≤ 18446744073709551615) (hn : n ≤ 4000000000000000000) (hk : k ≤ 4000000000000000000) (hS : p.2.2.1 ≤ 4000000000000000000) :
    Calls Tryz.prog 8 #[.iface 46 (.agg #[.pointer (some ⟨m, 0, none⟩)]), .pointer (some ⟨v, 0, none⟩), .agg #[.int .i64 6, .int .u64 (rt : Int), .int .u64 (vt : Int), .int .u64 (vl : Int), .int .i64 nn]] wr (StepT w0 base m v vr vd rs ds p n k) := by
  have hbs := h.hbase
  obtain ⟨W1, hW1⟩ : ∃ W1, wr.alloc (Obj.cells #[.int .i64 6, .int .u64 (rt : Int), .int .u64 (vt : Int), .int .u64 (vl : Int), .int .i64 nn] 36) = W1 := ⟨_, rfl⟩
  have hb1 : Below wr.heap.size wr W1 := hW1 ▸ (Below.refl _ _).alloc (Nat.le_refl _) _
  have HO1 : Hid (OpAt W1 wr.heap.size 6 rt vt vl nn) := hW1 ▸ OpAt.new wr 6 rt vt vl nn
  have HG1 : Hid (GMt w0 W1 base m v vr vd rs ds p p n k) := h.below hb1
  have HC1 : Hid (∀ W, GMt w0 W base m v vr vd rs ds p p n k → Calls Tryz.prog 143 #[.agg #[.pointer (some ⟨m, 0, none⟩)], .int .u64 (vt : Int), .int .i64 8, .int .u64 (vl : Int)] W fun e w' => e = .returned (.agg #[.int .i64 (layA (rs ++ ds) vt).1, .int .u64 (layA (rs ++ ds) vt).2]) ∧ Hid (GMt w0 w' base m v vr vd rs ds (stFt (rs ++ ds) vt vl p) p (n + 1) k) ∧ Hid (Bx base W w')) := fun W hW => gt_lay1 hW hv (by omega) (by omega)
  have HC2 : Hid (∀ W, GMt w0 W base m v vr vd rs ds (stFt (rs ++ ds) vt vl p) p (n + 1) k → Calls Tryz.prog 11 #[.pointer (some ⟨v, 0, none⟩), .int .u64 (vt : Int), .int .i64 8, .int .u64 (vl : Int)] W fun e w' => e = .returned (.agg #[.int .i64 (layA (rs ++ ds) vt).1, .int .u64 (layA (rs ++ ds) vt).2]) ∧ Hid (GMt w0 w' base m v vr vd rs ds (stFt (rs ++ ds) vt vl p) (stFt (rs ++ ds) vt vl p) (n + 1) (k + 1)) ∧ Hid (Bx base W w')) := fun W hW => gt_lay2 hW hv (by omega) (by omega)
  have HSm : Hid (∀ a b W, Calls Tryz.prog 22 #[.agg #[.int .i64 a, .int .u64 b], .agg #[.int .i64 a, .int .u64 b]] W fun e w' => e = .returned (.bool true) ∧ Below W.heap.size W w') := same_one
  have HLe : Hid ((stFt (rs ++ ds) vt vl p).2.1 ≤ p.2.1 + 8 ∧ (stFt (rs ++ ds) vt vl p).2.2.1 ≤ p.2.2.1 + 8) := by
    have := stFt_le (rs ++ ds) vt vl p
    exact ⟨by omega, by omega⟩
  obtain ⟨why, hwhy⟩ : ∃ why : Int, why = (layA (rs ++ ds) vt).1 := ⟨_, rfl⟩
  obtain ⟨xx, hxx⟩ : ∃ xx : Int, xx = (layA (rs ++ ds) vt).2 := ⟨_, rfl⟩
  rw [← hxx, ← hwhy] at HC1 HC2
  obtain ⟨PP, hPP⟩ : ∃ PP, PP = stFt (rs ++ ds) vt vl p := ⟨_, rfl⟩
  rw [← hPP] at HC1 HC2 HLe
  have hme : ∀ (w : World) (p : Value), (method 319 46 (.agg #[p]) "Store").run Tryz.prog w = .ok (143, .agg #[p]) w := fun _ _ => by kernel_rfl
  have hna : ∀ (W : World) (p : Value), (nilAhead 319 46 (.agg #[p]) "Store").run Tryz.prog W = .ok (some false) W := fun _ _ => by kernel_rfl
  clear h hb1 hwhy hxx hPP
  obtain ⟨o0, o1, o2, o3, o4⟩ := HO1.out.cells
  go_enter Tryz.func8, Tryz.ntmps8
  go_wp2_with fail
  clear hW1 o0 o1 o2 o3 o4
  have HOd : Hid (OpAt W1.drew wr.heap.size 6 rt vt vl nn) := HO1.out
  have HGd : Hid (GMt w0 W1.drew base m v vr vd rs ds p p n k) := HG1.out.below (below_drewNn W1 1)
  have HS0 := Lib.hid HOd.out.cells.2
  clear HO1 HG1
  go_region_held3 (fun wx => wx.cell? ⟨wr.heap.size, 1, none⟩ = some (.int .u64 (rt : Int)) ∧ wx.cell? ⟨wr.heap.size, 2, none⟩ = some (.int .u64 (vt : Int)) ∧ wx.cell? ⟨wr.heap.size, 3, none⟩ = some (.int .u64 (vl : Int)) ∧ wx.cell? ⟨wr.heap.size, 4, none⟩ = some (.int .i64 nn)) (first | exact HS3.out | exact HS2.out | exact HS1.out | exact HS0.out)
    (first
      | (go_at_call 143; refine (HC1.out _ HGd.out).mono ?_; rintro e x1 ⟨rfl, HGx, HBx⟩; have HOx := Lib.hid (HOd.out.bx HBx.out hbs); have HS1 := Lib.hid HOx.out.cells.2; clear HC1 HGd)
      | (go_at_call 11; refine (HC2.out _ HGx.out).mono ?_; rintro e x2 ⟨rfl, HGy, HBy⟩; have HOy := Lib.hid (HOx.out.bx HBy.out hbs); have HS2 := Lib.hid HOy.out.cells.2; clear HC2 HGx)
      | (go_at_call 22; refine (HSm.out _ _ _).mono ?_; rintro e x3 ⟨rfl, hb3⟩; have HGz := Lib.hid (HGy.out.below hb3); have HOz := Lib.hid (HOy.out.below hb3); have HS3 := Lib.hid HOz.out.cells.2; clear HSm hb3 HGy))
  all_goals
    go_wp2_with fail
    go_ret
    exact ⟨rfl, _, Lib.hid (HGz.out.mono (by omega) (by omega)), HLe.out⟩
set_option maxRecDepth 100000 in
set_option maxHeartbeats 4000000 in
theorem stept_no {w0 wr : World} {base m v : Nat} {vr vd : Value} {rs ds : List Sp} {p : Ht} {n k : Nat} {kd nn : Int} {rt vt vl : Nat} (h : GMt w0 wr base m v vr vd rs ds p p n k) (h1 : (kd == 1) = false) (h2 : (kd == 2) = false) (h3 : (kd == 3) = false) (h4 : (kd == 4) = false) (h5 : (kd == 5) = false) (h6 : (kd == 6) = false) :
    Calls Tryz.prog 8 #[.iface 46 (.agg #[.pointer (some ⟨m, 0, none⟩)]), .pointer (some ⟨v, 0, none⟩), .agg #[.int .i64 kd, .int .u64 (rt : Int), .int .u64 (vt : Int), .int .u64 (vl : Int), .int .i64 nn]] wr (StepT w0 base m v vr vd rs ds p n k) := by
  obtain ⟨W1, hW1⟩ : ∃ W1, wr.alloc (Obj.cells #[.int .i64 kd, .int .u64 (rt : Int), .int .u64 (vt : Int), .int .u64 (vl : Int), .int .i64 nn] 36) = W1 := ⟨_, rfl⟩
  have hb1 : Below wr.heap.size wr W1 := hW1 ▸ (Below.refl _ _).alloc (Nat.le_refl _) _
  have HO1 : Hid (OpAt W1 wr.heap.size kd rt vt vl nn) := hW1 ▸ OpAt.new wr kd rt vt vl nn
  have HG1 : Hid (GMt w0 W1 base m v vr vd rs ds p p n k) := h.below hb1
  clear h hb1
  obtain ⟨o0, o1, o2, o3, o4⟩ := HO1.out.cells
  go_enter Tryz.func8, Tryz.ntmps8
  go_wp2_with fail
  go_ret
  exact ⟨rfl, p, Lib.hid (HG1.out.mono (by omega) (by omega)), by omega, by omega⟩
end Go.Proofs.YtdkhhofgfbnmkaaGreat
