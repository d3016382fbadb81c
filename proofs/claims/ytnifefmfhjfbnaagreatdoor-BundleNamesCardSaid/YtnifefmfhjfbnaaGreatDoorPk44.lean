import Derived.Test.YtnifefmfhjfbnaaGreatDoorPk36
import Derived.Test.YtnifefmfhjfbnaaGreatDoorPk43
/- Bundle: Decode. Own work. -/
namespace Go.Proofs.YtnifefmfhjfbnaaGreatDoor
open Go.RowKit Bn Dc
set_option linter.unusedVariables false
set_option linter.unusedSimpArgs false
set_option maxRecDepth 100000 in
theorem rd_build {ao : Option Addr} {n cap : Nat} (W : World) : (Instr.build 66 #[(0, .slice ao n cap)]).run Tryz.prog W = .ok (.agg (rdN (.slice ao n cap) im0 en0 0 (.pointer none) 0 0 0).toArray) W := run_build W _ _ _ (by kernel_rfl)
def whA (sec ad : Int) : Array Value := #[.int .i64 sec, .int .i64 ad]
theorem info_wh (sec ad : Int) : (Tryz.prog.info? 41).map (·.size) = some (whA sec ad).size := by kernel_rfl
theorem dec_results {T : Array Value} {W : World} {b1 b2 : Nat} {im : List Value} {sec ad : Int} {y : Value} (h2 : T[2]?.getD undef = .pointer (some ⟨b1, 0, none⟩)) (h3 : T[3]?.getD undef = .pointer (some ⟨b2, 0, none⟩)) (h4 : T[4]?.getD undef = y) (k1 : W.heap[b1]? = some (.cells im.toArray 37 (0, 0))) (hl : im.length = 12) (k2 : W.heap[b2]? = some (.cells (whA sec ad) 41 (0, 0))) : (results Tryz.f9 T).run Tryz.prog W = .ok (.tuple #[.agg im.toArray, .agg (whA sec ad), y]) W := by
  have l1 : (loadVar 37 ⟨b1, 0, none⟩).run Tryz.prog W = .ok (.agg im.toArray) W := run_loadVar_row _ _ _ _ _ _ _ k1 Tryz.underlying37 rfl (info_im hl)
  have l2 : (loadVar 41 ⟨b2, 0, none⟩).run Tryz.prog W = .ok (.agg (whA sec ad)) W := run_loadVar_row _ _ _ _ _ _ _ k2 Tryz.underlying41 rfl (info_wh sec ad)
  simp only [results, Tryz.results9]
  simp [Sem.run_bind, Result.andThen, h2, h3, h4, asAddr, l1, l2]
/-- what Decode answers -/
def DecQ (bs : List Nat) (e : Ending) (w' : World) : Prop := ((decA bs).why = 0 ∧ ∃ im, e = .returned (.tuple #[.agg im.toArray, .agg (whA 0 0), .int .i64 0]) ∧ im.length = 12 ∧ ImD w' im (decA bs).J) ∨ ((decA bs).why ≠ 0 ∧ e = .returned (.tuple #[.agg im0.toArray, .agg (whA (decA bs).sec (decA bs).ad), .int .i64 (decA bs).why]))
theorem row_keeps (w : World) (b : Nat) (c : Array Value) : Keeps (fun k => k = b) w (w.setRow b c) := ⟨rfl, rfl, rfl, by simp [World.setRow], fun k _ hk => by
  simp only [World.setRow, Array.getElem?_modify]
  rw [if_neg (fun e => hk e.symm)]⟩
theorem set_other {w : World} {b i j : Nat} (u : Value) (b' : Unit := ()) (h : j ≠ b) : (w.setCell ⟨b, i, none⟩ u).heap[j]? = w.heap[j]? := by
  simp only [World.setCell, Array.getElem?_modify]
  rw [if_neg (fun e => h e.symm)]
theorem OwnG.kt {Z : Nat → Prop} {β : Type} {t : TypeId} {k : Nat} {enc : β → List Value} {w w' : World} {base : Nat} {v : Value} {xs : List β} (h : OwnG t k enc w base v xs) (hf : Keeps Z w w') (hz : ∀ j, Tagd w t j → ¬ Z j) : OwnG t k enc w' base v xs := by
  obtain ⟨_, _, _, _, _, hj⟩ := h.form
  exact h.keeps hf (fun j e => hz j (hj j e).2.2)
def ZIw (w : World) (k : Nat) : Prop := Tagd w 37 k ∨ Tagd w 41 k
theorem ZIw.no {w : World} {t : TypeId} (h1 : t ≠ 37) (h2 : t ≠ 41) (j : Nat) (h : Tagd w t j) : ¬ ZIw w j := fun e => by
  rcases e with e | e
  · exact h1 (tag_same h e)
  · exact h2 (tag_same h e)
theorem ImD.kt {w w' : World} {im : List Value} {J : Im} (h : ImD w im J) (hf : Keeps (ZIw w) w w') : ImD w' im J := by
  obtain ⟨h0, ⟨v1, a1, b1⟩, ⟨v2, a2, b2⟩, ⟨v3, a3, b3⟩, ⟨v4, a4, b4⟩, ⟨v5, a5, b5⟩, ⟨v6, a6, b6⟩, ⟨v7, a7, b7⟩, ⟨v8, a8, us, b8, c8⟩, h9, h10, ⟨v11, a11, b11⟩⟩ := h
  exact ⟨h0, ⟨v1, a1, b1.kt hf (ZIw.no (by decide) (by decide))⟩, ⟨v2, a2, b2.kt hf (ZIw.no (by decide) (by decide))⟩, ⟨v3, a3, b3.kt hf (ZIw.no (by decide) (by decide))⟩, ⟨v4, a4, b4.kt hf (ZIw.no (by decide) (by decide))⟩, ⟨v5, a5, b5.kt hf (ZIw.no (by decide) (by decide))⟩, ⟨v6, a6, b6.kt hf (ZIw.no (by decide) (by decide))⟩, ⟨v7, a7, b7.kt hf (ZIw.no (by decide) (by decide))⟩, ⟨v8, a8, us, b8.kt hf (ZIw.no (by decide) (by decide)), c8.imp (fun x y ⟨e, vs, o, t⟩ => ⟨e, vs, o.kt hf (ZIw.no (by decide) (by decide)), t.imp (fun a b o => o.kt hf (ZIw.no (by decide) (by decide)))⟩)⟩, h9, h10, ⟨v11, a11, b11.kt hf (ZIw.no (by decide) (by decide))⟩⟩
theorem row_ne {w : World} {b i : Nat} (hc : i ≠ b) (d : Array Value) : (w.setRow b d).heap[i]? = w.heap[i]? := by
  simp only [World.setRow, Array.getElem?_modify]
  rw [if_neg (fun e => hc e.symm)]
/-- cells of one block are stored, one by one -/
def setsW (b : Nat) : List (Nat × Value) → World → World
  | [], w => w
  | p :: r, w => setsW b r (w.setCell ⟨b, p.1, none⟩ p.2)
theorem sets_heap {b : Nat} {t : TypeId} : ∀ (L : List (Nat × Value)) {w : World} {cs : List Value}, w.heap[b]? = some (.cells cs.toArray t (0, 0)) → (setsW b L w).heap[b]? = some (.cells (L.foldl (fun cs p => cs.set p.1 p.2) cs).toArray t (0, 0))
  | [], _, _, h => h
  | p :: r, _, _, h => sets_heap r (box_set h p.1 p.2)
theorem sets_other {b j : Nat} (hj : j ≠ b) : ∀ (L : List (Nat × Value)) (w : World), (setsW b L w).heap[j]? = w.heap[j]?
  | [], _ => rfl
  | p :: r, w => (sets_other hj r _).trans (set_other p.2 () hj)
theorem sets_below {b n : Nat} (hb : n ≤ b) {w : World} : ∀ (L : List (Nat × Value)) {w2 : World}, Below n w w2 → Below n w (setsW b L w2)
  | [], _, h => h
  | p :: r, _, h => sets_below hb r (h.setCell hb p.2)
def stoL : List (Nat × Value) := [(0, .int .u64 0), (1, .slice none 0 0), (2, .slice none 0 0), (3, .slice none 0 0), (4, .slice none 0 0), (5, .slice none 0 0), (6, .slice none 0 0), (7, .slice none 0 0), (8, .slice none 0 0), (9, .int .i64 0), (10, .int .i64 0), (11, .slice none 0 0)]
theorem drew_heap (w : World) : w.drew.heap = w.heap := rfl
theorem sto_a {a b : Nat} {t : TypeId} {L1 L2 : List (Nat × Value)} {cs : List Value} {w2 : World} (hab : a ≠ b) (h1 : w2.heap[a]? = some (.cells cs.toArray t (0, 0))) : (setsW b L2 (setsW a L1 w2)).drew.heap[a]? = some (.cells (L1.foldl (fun cs p => cs.set p.1 p.2) cs).toArray t (0, 0)) := by
  rw [drew_heap, sets_other hab]
  exact sets_heap L1 h1
theorem sto_b {a b : Nat} {t : TypeId} {L1 L2 : List (Nat × Value)} {cs : List Value} {w2 : World} (hab : a ≠ b) (h2 : w2.heap[b]? = some (.cells cs.toArray t (0, 0))) : (setsW b L2 (setsW a L1 w2)).drew.heap[b]? = some (.cells (L2.foldl (fun cs p => cs.set p.1 p.2) cs).toArray t (0, 0)) := by
  rw [drew_heap]
  refine sets_heap L2 ?_
  rw [sets_other (Ne.symm hab)]
  exact h2
theorem sto_c {a b n : Nat} {L1 L2 : List (Nat × Value)} {w w2 : World} (h : Below n w w2) (ha : n ≤ a) (hb : n ≤ b) : Below n w (setsW b L2 (setsW a L1 w2)).drew := (sets_below hb L2 (sets_below ha L1 h)).trans ⟨rfl, rfl, rfl, Nat.le_refl _, fun _ _ => rfl⟩
theorem fold_im0 : stoL.foldl (fun cs p => cs.set p.1 p.2) im0 = im0 := rfl
theorem fold_wh (sec ad : Int) : ([(0, .int .i64 sec), (1, .int .i64 ad)] : List (Nat × Value)).foldl (fun cs p => cs.set p.1 p.2) [.int .i64 0, .int .i64 0] = [.int .i64 sec, .int .i64 ad] := rfl
def stoD (a b : Nat) (sec ad : Int) (w2 : World) : World := (setsW b [(0, .int .i64 sec), (1, .int .i64 ad)] (setsW a stoL w2)).drew
theorem sto_heap {a b : Nat} {sec ad : Int} {w2 : World} (hab : a ≠ b) (h1 : w2.heap[a]? = some (.cells im0.toArray 37 (0, 0))) (h2 : w2.heap[b]? = some (.cells (whA 0 0) 41 (0, 0))) : (stoD a b sec ad w2).heap[a]? = some (.cells im0.toArray 37 (0, 0)) ∧ (stoD a b sec ad w2).heap[b]? = some (.cells (whA sec ad) 41 (0, 0)) := by
  have r1 := sto_a (L1 := stoL) (L2 := [(0, .int .i64 sec), (1, .int .i64 ad)]) hab h1
  have r2 := sto_b (L1 := stoL) (L2 := [(0, .int .i64 sec), (1, .int .i64 ad)]) (cs := [.int .i64 0, .int .i64 0]) hab h2
  rw [fold_im0] at r1
  rw [fold_wh] at r2
  exact ⟨r1, r2⟩
theorem sto_below {a b n : Nat} {sec ad : Int} {w w2 : World} (h : Below n w w2) (ha : n ≤ a) (hb : n ≤ b) : Below n w (stoD a b sec ad w2) := sto_c h ha hb
/-- all, of any bytes -/
theorem dall_any {B kb : Nat} {w0 w : World} {v : Value} {bs : List Nat} (h : Dn B kb v im0 en0 0 (.pointer none) w0 0 0 0 w) (hraw : ∀ W, Fd B w0 W → Sl W v bs) (ht : ∀ W, Fd B w0 W → Tab W) : Calls Tryz.prog 19 #[.pointer (some ⟨kb, 0, none⟩)] w fun e w' => e = .returned (.tuple #[]) ∧ AllQ B kb v bs w0 w' := by
  have h9 := hraw w h.fr
  by_cases hl : bs.length < 160
  · obtain ⟨ao, cap, rfl, _⟩ := h9
    refine (dallShortX h hl hraw).mono (fun e w' ⟨he, im, en, pt, pv, hd⟩ => ⟨he, im, en, pt, pv, ?_, fun hy => ?_⟩)
    · rw [decA, if_pos hl]
      exact hd
    · rw [decA, if_pos hl] at hy
      exact absurd hy (show ¬ (10 : Int) = 0 by decide)
  · obtain ⟨rb, ro, cap, rfl, _⟩ := h9.pos (by omega)
    exact dallX h (by omega) hraw ht
theorem wpList_load_tyR {ops : Array Oper} {rest : List Oper} {o : Oper} {a : Act} {w : World} {Q : Exit → Act → World → Prop} (hgd : o.guard = none) (ty : TypeId) (x : Operand) (ho : o.op = .load ty x) {p V : Value} (hx : a.eval x = p) (hl : (Instr.loadAt ty p).run Tryz.prog w = .ok V w) (hk : wpList Tryz.prog ops Q rest (a.put o.dst V) w) : wpList Tryz.prog ops Q (o :: rest) a w :=
  wpList_plain hgd fun K hK => by
    unfold Oper.wp execOp
    simp only [ho, hx, Sem.run_bind, Sem.run_pure, Result.andThen_ok, hl]
    exact hK _ _ hk
theorem im_load {B kb : Nat} {raw : Value} {im en : List Value} {pt : Int} {pv : Value} {w0 w : World} {why sec ad : Int} (h : Dn B kb raw im en pt pv w0 why sec ad w) : (Instr.loadAt 37 (.pointer (some ⟨kb, 1, none⟩))).run Tryz.prog w = .ok (.agg im.toArray) w := by
  have hS : Tryz.prog.underlying 37 = some (.struct (Tryz.prog.fieldsOf 37)) := by kernel_rfl
  have hz : (Tryz.prog.info? 37).map (·.size) = some im.length := by rw [h.him]; kernel_rfl
  exact run_loadAt_mid (P := Tryz.prog) w kb 1 37 im _ (fun j x hx => by
    have hj := (List.getElem?_eq_some_iff.1 hx).1
    rw [h.cell, rdN, show 1 + j = j + 1 by omega, List.getElem?_cons_succ, List.getElem?_append_left hj]
    exact hx) hS rfl hz
set_option maxRecDepth 100000 in
set_option maxHeartbeats 16000000 in
theorem decodeX {w : World} {v : Value} {bs : List Nat} (hs : Sl w v bs) (ht : Tab w) : Calls Tryz.prog 9 #[v] w fun e w' => DecQ bs e w' ∧ Below w.heap.size w w' := by
  obtain ⟨ao, cap, hv, _⟩ := id hs
  obtain ⟨W1, hW1⟩ : ∃ W, w.alloc (.cells im0.toArray 37) = W := ⟨_, rfl⟩
  obtain ⟨W2, hW2⟩ : ∃ W, W1.alloc (.cells (whA 0 0) 41) = W := ⟨_, rfl⟩
  obtain ⟨W3, hW3⟩ : ∃ W, W2.alloc (.cells (rdN v im0 en0 0 (.pointer none) 0 0 0).toArray 66) = W := ⟨_, rfl⟩
  have s1 : W1.heap.size = w.heap.size + 1 := by rw [← hW1]; simp
  have s2 : W2.heap.size = w.heap.size + 2 := by rw [← hW2]; simp [s1]
  have s3 : W3.heap.size = w.heap.size + 3 := by rw [← hW3]; simp [s2]
  have b1 : Below w.heap.size w W1 := by rw [← hW1]; exact (Below.refl _ _).alloc (Nat.le_refl _) _
  have b2 : Below W1.heap.size W1 W2 := by rw [← hW2]; exact (Below.refl _ _).alloc (Nat.le_refl _) _
  have b3 : Below W2.heap.size W2 W3 := by rw [← hW3]; exact (Below.refl _ _).alloc (Nat.le_refl _) _
  have b13 : Below W1.heap.size W1 W3 := b2.trans (b3.mono (by omega))
  have b03 : Below w.heap.size w W3 := b1.trans (b13.mono (by omega))
  have k1 : W3.heap[w.heap.size]? = some (.cells im0.toArray 37 (0, 0)) := (b13.block w.heap.size (by omega)).trans (by rw [← hW1]; exact heap_alloc_new w _)
  have k2 : W3.heap[w.heap.size + 1]? = some (.cells (whA 0 0) 41 (0, 0)) := (b3.block (w.heap.size + 1) (by omega)).trans (by rw [← hW2, ← s1]; exact heap_alloc_new W1 _)
  have k3 : W3.heap[w.heap.size + 2]? = some (.cells (rdN v im0 en0 0 (.pointer none) 0 0 0).toArray 66 (0, 0)) := by rw [← hW3, ← s2]; exact heap_alloc_new W2 _
  have hf : ∀ W, Fd (w.heap.size + 2) W3 W → Below (w.heap.size + 2) W3 W := fun W hW => hW.below (by have := b3.size; omega)
  have hA := dall_any (B := w.heap.size + 2) (kb := w.heap.size + 2) (w0 := W3) (w := W3) (v := v) (bs := bs) ⟨k3, rfl, rfl, Nat.le_refl _, Fd.refl _ _⟩ (fun W hW => hs.below (b03.trans ((hf W hW).mono (by omega)))) (fun W hW => ht.below (b03.trans ((hf W hW).mono (by omega))))
  have HA := Lib.hid hA
  have K1 : Hid (∀ W, Fd (w.heap.size + 2) W3 W → W.heap[w.heap.size]? = some (.cells im0.toArray 37 (0, 0)) ∧ W.heap[w.heap.size + 1]? = some (.cells (whA 0 0) 41 (0, 0)) ∧ Below w.heap.size w W) := fun W hW => ⟨((hf W hW).block w.heap.size (by omega)).trans k1, ((hf W hW).block (w.heap.size + 1) (by omega)).trans k2, b03.trans ((hf W hW).mono (by omega))⟩
  subst hv
  have HB := Lib.hid (fun W => rd_build (ao := ao) (n := bs.length) (cap := cap) W)
  clear hs ht k1 k2 k3 hf hA b1 b2 b3 b13 b03
  obtain ⟨y, hy⟩ : ∃ y, (decA bs).why = y := ⟨_, rfl⟩
  obtain ⟨sec, hsec⟩ : ∃ y, (decA bs).sec = y := ⟨_, rfl⟩
  obtain ⟨ad, had⟩ : ∃ y, (decA bs).ad = y := ⟨_, rfl⟩
  have HG : Hid (DecQ bs = fun e w' => (y = 0 ∧ ∃ im, e = .returned (.tuple #[.agg im.toArray, .agg (whA 0 0), .int .i64 0]) ∧ im.length = 12 ∧ ImD w' im (decA bs).J) ∨ (y ≠ 0 ∧ e = .returned (.tuple #[.agg im0.toArray, .agg (whA sec ad), .int .i64 y]))) := show _ = _ by
    funext e w'
    rw [← hy, ← hsec, ← had]
    rfl
  rw [HG.out]
  have HY := Lib.hid hy
  have HSe := Lib.hid hsec
  have HAd := Lib.hid had
  clear HG hy hsec had
  go_enter Tryz.func9, Tryz.ntmps9
  go_wp2_with (refine wpList_lbuild rfl 66 #[(0, .tmp 6)] rfl #[(0, .slice ao bs.length cap)] (by simp [Act.eval, Act.put]) (fun W => HB.out W) ?_)
  subst hW3 hW2 hW1
  refine HA.out.mono ?_
  rintro e w2 ⟨rfl, im, en, pt, pv, hd, hi⟩
  obtain ⟨q1, q2, q3⟩ := K1.out _ hd.fr
  have hl := hd.him
  have HQ1 := Lib.hid q1
  have HQ2 := Lib.hid q2
  have HQ3 := Lib.hid q3
  have HD := Lib.hid hd
  have HI := Lib.hid hi
  have HL : Hid (im.length = 12) := hl
  rw [HY.out, HSe.out, HAd.out] at HD
  rw [HY.out] at HI
  have c62 : w2.cell? ⟨w.heap.size + 2, 62, none⟩ = some (.int .i64 y) := HD.out.cend 4
  have HC : Hid (w2.cell? ⟨w.heap.size + 2, 60, none⟩ = some (.int .i64 sec) ∧ w2.cell? ⟨w.heap.size + 2, 61, none⟩ = some (.int .i64 ad)) := ⟨HD.out.cend 2, HD.out.cend 3⟩
  clear hd hi q1 q2 q3 hl HY HSe HAd HA K1 HB
  dsimp only
  by_cases hy0 : y = 0
  · subst hy0
    have HO : Hid (im.toArray.all (·.oneCell') = true) := (HI.out rfl).one HL.out
    have HI0 : Hid (ImD w2 im (decA bs).J) := HI.out rfl
    clear HI
    have HM : Hid ((Instr.loadAt 37 (.pointer (some ⟨w.heap.size + 1 + 1, 1, none⟩))).run Tryz.prog w2 = .ok (.agg im.toArray) w2) := im_load HD.out
    have HW2 : Hid ((w2.setRow w.heap.size im.toArray).heap[w.heap.size + 1]? = some (.cells (whA 0 0) 41 (0, 0))) := show _ = _ by rw [row_ne (by omega) _]; exact HQ2.out
    have HF1 : Hid (((w2.setRow w.heap.size im.toArray).setRow (w.heap.size + 1) (whA 0 0)).heap[w.heap.size]? = some (.cells im.toArray 37 (0, 0))) := show _ = _ by rw [row_ne (by omega) _]; exact setRow_heap _ _ _ _ _ _ HQ1.out
    have HF2 : Hid (((w2.setRow w.heap.size im.toArray).setRow (w.heap.size + 1) (whA 0 0)).heap[w.heap.size + 1]? = some (.cells (whA 0 0) 41 (0, 0))) := setRow_heap _ _ _ _ _ _ HW2.out
    go_wp2_with (first | (refine wpList_load_tyR rfl 37 (.tmp 27) rfl rfl HM.out ?_) | (refine wpList_store_arr rfl 37 (.tmp 2) (.tmp 28) rfl (b := w.heap.size) (Z := im0.toArray) (g := im.toArray) rfl rfl rfl HQ1.out (info_im HL.out) (by simp [HL.out, im0]) HO.out ?_) | (refine wpList_store_arr rfl 41 (.tmp 3) (.tmp 29) rfl (b := w.heap.size + 1) (Z := whA 0 0) (g := whA 0 0) rfl rfl rfl HW2.out (info_wh 0 0) rfl (by kernel_rfl) ?_))
    refine bodyPost_ret (dec_results rfl rfl rfl HF1.out HL.out HF2.out) rfl ?_
    refine ⟨⟨im, rfl, HL.out, HI0.out.kt (w' := (w2.setRow w.heap.size im.toArray).setRow (w.heap.size + 1) (whA 0 0)) ?_⟩, ?_⟩
    · refine (Keeps.mono (row_keeps w2 w.heap.size _) (fun k _ e => ?_)).trans (row_keeps _ (w.heap.size + 1) _) (fun k _ e => ?_)
      · subst e
        exact .inl ⟨_, HQ1.out⟩
      · subst e
        exact .inr ⟨_, HQ2.out⟩
    · exact HQ3.out.trans ((below_setRow _ _ _ _ (Nat.le_refl _)).trans (below_setRow _ _ _ _ (by omega)))
  · go_upto_region 4 with fail
    have FR2 : Hid (∀ (W : World) b c t, W.heap[b]? = some (.cells c t (0, 0)) → ∀ i, W.frozen? ⟨b, i, none⟩ = false) := fun W b c t h i => box_free h i
    have FR : Hid (∀ (W : World) b c t, W.heap[b]? = some (.cells c t (0, 0)) → ∀ i, W.drew.frozen? ⟨b, i, none⟩ = false) := fun W b c t h i => box_free (show W.drew.heap[b]? = some (.cells c t (0, 0)) from h) i
    have y0 : w2.drew.cell? ⟨w.heap.size, 0, none⟩ = some (.int .u64 0) := by rw [show w2.drew.cell? ⟨w.heap.size, 0, none⟩ = w2.cell? ⟨w.heap.size, 0, none⟩ from rfl, cell_of_row _ _ 0 _ _ _ HQ1.out]; rfl
    have z0 : w2.drew.frozen? ⟨w.heap.size, 0, none⟩ = false := FR.out _ _ _ _ HQ1.out _
    have y1 : w2.drew.cell? ⟨w.heap.size, 1, none⟩ = some (.slice none 0 0) := by rw [show w2.drew.cell? ⟨w.heap.size, 1, none⟩ = w2.cell? ⟨w.heap.size, 1, none⟩ from rfl, cell_of_row _ _ 1 _ _ _ HQ1.out]; rfl
    have z1 : w2.drew.frozen? ⟨w.heap.size, 1, none⟩ = false := FR.out _ _ _ _ HQ1.out _
    have y2 : w2.drew.cell? ⟨w.heap.size, 2, none⟩ = some (.slice none 0 0) := by rw [show w2.drew.cell? ⟨w.heap.size, 2, none⟩ = w2.cell? ⟨w.heap.size, 2, none⟩ from rfl, cell_of_row _ _ 2 _ _ _ HQ1.out]; rfl
    have z2 : w2.drew.frozen? ⟨w.heap.size, 2, none⟩ = false := FR.out _ _ _ _ HQ1.out _
    have y3 : w2.drew.cell? ⟨w.heap.size, 3, none⟩ = some (.slice none 0 0) := by rw [show w2.drew.cell? ⟨w.heap.size, 3, none⟩ = w2.cell? ⟨w.heap.size, 3, none⟩ from rfl, cell_of_row _ _ 3 _ _ _ HQ1.out]; rfl
    have z3 : w2.drew.frozen? ⟨w.heap.size, 3, none⟩ = false := FR.out _ _ _ _ HQ1.out _
    have y4 : w2.drew.cell? ⟨w.heap.size, 4, none⟩ = some (.slice none 0 0) := by rw [show w2.drew.cell? ⟨w.heap.size, 4, none⟩ = w2.cell? ⟨w.heap.size, 4, none⟩ from rfl, cell_of_row _ _ 4 _ _ _ HQ1.out]; rfl
    have z4 : w2.drew.frozen? ⟨w.heap.size, 4, none⟩ = false := FR.out _ _ _ _ HQ1.out _
    have y5 : w2.drew.cell? ⟨w.heap.size, 5, none⟩ = some (.slice none 0 0) := by rw [show w2.drew.cell? ⟨w.heap.size, 5, none⟩ = w2.cell? ⟨w.heap.size, 5, none⟩ from rfl, cell_of_row _ _ 5 _ _ _ HQ1.out]; rfl
    have z5 : w2.drew.frozen? ⟨w.heap.size, 5, none⟩ = false := FR.out _ _ _ _ HQ1.out _
    have y6 : w2.drew.cell? ⟨w.heap.size, 6, none⟩ = some (.slice none 0 0) := by rw [show w2.drew.cell? ⟨w.heap.size, 6, none⟩ = w2.cell? ⟨w.heap.size, 6, none⟩ from rfl, cell_of_row _ _ 6 _ _ _ HQ1.out]; rfl
    have z6 : w2.drew.frozen? ⟨w.heap.size, 6, none⟩ = false := FR.out _ _ _ _ HQ1.out _
    have y7 : w2.drew.cell? ⟨w.heap.size, 7, none⟩ = some (.slice none 0 0) := by rw [show w2.drew.cell? ⟨w.heap.size, 7, none⟩ = w2.cell? ⟨w.heap.size, 7, none⟩ from rfl, cell_of_row _ _ 7 _ _ _ HQ1.out]; rfl
    have z7 : w2.drew.frozen? ⟨w.heap.size, 7, none⟩ = false := FR.out _ _ _ _ HQ1.out _
    have y8 : w2.drew.cell? ⟨w.heap.size, 8, none⟩ = some (.slice none 0 0) := by rw [show w2.drew.cell? ⟨w.heap.size, 8, none⟩ = w2.cell? ⟨w.heap.size, 8, none⟩ from rfl, cell_of_row _ _ 8 _ _ _ HQ1.out]; rfl
    have z8 : w2.drew.frozen? ⟨w.heap.size, 8, none⟩ = false := FR.out _ _ _ _ HQ1.out _
    have y9 : w2.drew.cell? ⟨w.heap.size, 9, none⟩ = some (.int .i64 0) := by rw [show w2.drew.cell? ⟨w.heap.size, 9, none⟩ = w2.cell? ⟨w.heap.size, 9, none⟩ from rfl, cell_of_row _ _ 9 _ _ _ HQ1.out]; rfl
    have z9 : w2.drew.frozen? ⟨w.heap.size, 9, none⟩ = false := FR.out _ _ _ _ HQ1.out _
    have y10 : w2.drew.cell? ⟨w.heap.size, 10, none⟩ = some (.int .i64 0) := by rw [show w2.drew.cell? ⟨w.heap.size, 10, none⟩ = w2.cell? ⟨w.heap.size, 10, none⟩ from rfl, cell_of_row _ _ 10 _ _ _ HQ1.out]; rfl
    have z10 : w2.drew.frozen? ⟨w.heap.size, 10, none⟩ = false := FR.out _ _ _ _ HQ1.out _
    have y11 : w2.drew.cell? ⟨w.heap.size, 11, none⟩ = some (.slice none 0 0) := by rw [show w2.drew.cell? ⟨w.heap.size, 11, none⟩ = w2.cell? ⟨w.heap.size, 11, none⟩ from rfl, cell_of_row _ _ 11 _ _ _ HQ1.out]; rfl
    have z11 : w2.drew.frozen? ⟨w.heap.size, 11, none⟩ = false := FR.out _ _ _ _ HQ1.out _
    have v0 : w2.drew.cell? ⟨w.heap.size + 1, 0, none⟩ = some (.int .i64 0) := by rw [show w2.drew.cell? ⟨w.heap.size + 1, 0, none⟩ = w2.cell? ⟨w.heap.size + 1, 0, none⟩ from rfl, cell_of_row _ _ 0 _ _ _ HQ2.out]; rfl
    have u0 : w2.drew.frozen? ⟨w.heap.size + 1, 0, none⟩ = false := FR.out _ _ _ _ HQ2.out _
    have v1 : w2.drew.cell? ⟨w.heap.size + 1, 1, none⟩ = some (.int .i64 0) := by rw [show w2.drew.cell? ⟨w.heap.size + 1, 1, none⟩ = w2.cell? ⟨w.heap.size + 1, 1, none⟩ from rfl, cell_of_row _ _ 1 _ _ _ HQ2.out]; rfl
    have u1 : w2.drew.frozen? ⟨w.heap.size + 1, 1, none⟩ = false := FR.out _ _ _ _ HQ2.out _
    have y0' : w2.cell? ⟨w.heap.size, 0, none⟩ = some (.int .u64 0) := by rw [cell_of_row _ _ 0 _ _ _ HQ1.out]; rfl
    have z0' : w2.frozen? ⟨w.heap.size, 0, none⟩ = false := FR2.out _ _ _ _ HQ1.out _
    have y1' : w2.cell? ⟨w.heap.size, 1, none⟩ = some (.slice none 0 0) := by rw [cell_of_row _ _ 1 _ _ _ HQ1.out]; rfl
    have z1' : w2.frozen? ⟨w.heap.size, 1, none⟩ = false := FR2.out _ _ _ _ HQ1.out _
    have y2' : w2.cell? ⟨w.heap.size, 2, none⟩ = some (.slice none 0 0) := by rw [cell_of_row _ _ 2 _ _ _ HQ1.out]; rfl
    have z2' : w2.frozen? ⟨w.heap.size, 2, none⟩ = false := FR2.out _ _ _ _ HQ1.out _
    have y3' : w2.cell? ⟨w.heap.size, 3, none⟩ = some (.slice none 0 0) := by rw [cell_of_row _ _ 3 _ _ _ HQ1.out]; rfl
    have z3' : w2.frozen? ⟨w.heap.size, 3, none⟩ = false := FR2.out _ _ _ _ HQ1.out _
    have y4' : w2.cell? ⟨w.heap.size, 4, none⟩ = some (.slice none 0 0) := by rw [cell_of_row _ _ 4 _ _ _ HQ1.out]; rfl
    have z4' : w2.frozen? ⟨w.heap.size, 4, none⟩ = false := FR2.out _ _ _ _ HQ1.out _
    have y5' : w2.cell? ⟨w.heap.size, 5, none⟩ = some (.slice none 0 0) := by rw [cell_of_row _ _ 5 _ _ _ HQ1.out]; rfl
    have z5' : w2.frozen? ⟨w.heap.size, 5, none⟩ = false := FR2.out _ _ _ _ HQ1.out _
    have y6' : w2.cell? ⟨w.heap.size, 6, none⟩ = some (.slice none 0 0) := by rw [cell_of_row _ _ 6 _ _ _ HQ1.out]; rfl
    have z6' : w2.frozen? ⟨w.heap.size, 6, none⟩ = false := FR2.out _ _ _ _ HQ1.out _
    have y7' : w2.cell? ⟨w.heap.size, 7, none⟩ = some (.slice none 0 0) := by rw [cell_of_row _ _ 7 _ _ _ HQ1.out]; rfl
    have z7' : w2.frozen? ⟨w.heap.size, 7, none⟩ = false := FR2.out _ _ _ _ HQ1.out _
    have y8' : w2.cell? ⟨w.heap.size, 8, none⟩ = some (.slice none 0 0) := by rw [cell_of_row _ _ 8 _ _ _ HQ1.out]; rfl
    have z8' : w2.frozen? ⟨w.heap.size, 8, none⟩ = false := FR2.out _ _ _ _ HQ1.out _
    have y9' : w2.cell? ⟨w.heap.size, 9, none⟩ = some (.int .i64 0) := by rw [cell_of_row _ _ 9 _ _ _ HQ1.out]; rfl
    have z9' : w2.frozen? ⟨w.heap.size, 9, none⟩ = false := FR2.out _ _ _ _ HQ1.out _
    have y10' : w2.cell? ⟨w.heap.size, 10, none⟩ = some (.int .i64 0) := by rw [cell_of_row _ _ 10 _ _ _ HQ1.out]; rfl
    have z10' : w2.frozen? ⟨w.heap.size, 10, none⟩ = false := FR2.out _ _ _ _ HQ1.out _
    have y11' : w2.cell? ⟨w.heap.size, 11, none⟩ = some (.slice none 0 0) := by rw [cell_of_row _ _ 11 _ _ _ HQ1.out]; rfl
    have z11' : w2.frozen? ⟨w.heap.size, 11, none⟩ = false := FR2.out _ _ _ _ HQ1.out _
    have v0' : w2.cell? ⟨w.heap.size + 1, 0, none⟩ = some (.int .i64 0) := by rw [cell_of_row _ _ 0 _ _ _ HQ2.out]; rfl
    have u0' : w2.frozen? ⟨w.heap.size + 1, 0, none⟩ = false := FR2.out _ _ _ _ HQ2.out _
    have v1' : w2.cell? ⟨w.heap.size + 1, 1, none⟩ = some (.int .i64 0) := by rw [cell_of_row _ _ 1 _ _ _ HQ2.out]; rfl
    have u1' : w2.frozen? ⟨w.heap.size + 1, 1, none⟩ = false := FR2.out _ _ _ _ HQ2.out _
    have x60' : w2.cell? ⟨w.heap.size + 1 + 1, 60, none⟩ = some (.int .i64 sec) := HC.out.1
    have x61' : w2.cell? ⟨w.heap.size + 1 + 1, 61, none⟩ = some (.int .i64 ad) := HC.out.2
    have x62' : w2.cell? ⟨w.heap.size + 1 + 1, 62, none⟩ = some (.int .i64 y) := c62
    have x60 : w2.drew.cell? ⟨w.heap.size + 1 + 1, 60, none⟩ = some (.int .i64 sec) := HC.out.1
    have x61 : w2.drew.cell? ⟨w.heap.size + 1 + 1, 61, none⟩ = some (.int .i64 ad) := HC.out.2
    have x62 : w2.drew.cell? ⟨w.heap.size + 1 + 1, 62, none⟩ = some (.int .i64 y) := c62
    have hs1 := sto_heap (sec := sec) (ad := ad) (show w.heap.size ≠ w.heap.size + 1 by omega) HQ1.out HQ2.out
    have hs2 := sto_below (sec := sec) (ad := ad) HQ3.out (Nat.le_refl w.heap.size) (Nat.le_succ w.heap.size)
    have HS : Hid (((stoD w.heap.size (w.heap.size + 1) sec ad w2).heap[w.heap.size]? = some (.cells im0.toArray 37 (0, 0)) ∧ (stoD w.heap.size (w.heap.size + 1) sec ad w2).heap[w.heap.size + 1]? = some (.cells (whA sec ad) 41 (0, 0))) ∧ Below w.heap.size w (stoD w.heap.size (w.heap.size + 1) sec ad w2)) := ⟨hs1, hs2⟩
    clear hs1 hs2
    go_cut [4] (fun y4 wx => y4 = .int .i64 y ∧ wx = stoD w.heap.size (w.heap.size + 1) sec ad w2)
    case first =>
      go_region
      all_goals
        go_wp2_with fail
        go_meet
        exact ⟨rfl, by kernel_rfl⟩
    case rest =>
      obtain ⟨rfl, hw9⟩ := hcut
      rw [← hw9] at HS
      clear hw9 HQ1 HQ2 HD HC HI x60 x61 x62 x60' x61' x62' c62
      go_wp2_with fail
      refine bodyPost_ret (dec_results rfl rfl rfl HS.out.1.1 rfl HS.out.1.2) rfl ?_
      refine ⟨?_, HS.out.2⟩
      first | exact rfl | exact .inr ⟨hy0, rfl⟩ | simp [hy0]
end Go.Proofs.YtnifefmfhjfbnaaGreatDoor
/- Bundle: what is laid down is read back. Plain. Own work. -/
namespace Go.Proofs.YtnifefmfhjfbnaaGreatDoor
open Bn Dc
set_option linter.unusedVariables false
set_option linter.unusedSimpArgs false
namespace Dc
theorem ask_ok {b : Bool} {no sec ad : Int} {s : D} (h : b = true) : askD b no sec ad s = s := by
  unfold askD
  rw [if_neg (fun e => by rw [h] at e; cases e.1)]
theorem asks_ok {bs : List Nat} {x : Hd} {s : D} (h1 : x.T = mg) (h2 : x.n1 = 1) (h3 : x.n2 = 8) (h4 : x.sm = Pl.crc (bs.take 152)) (h5 : x.zr = 0) (h6 : x.cnt ≤ 1024) (h7 : x.cnt * 4096 = bs.length) (h8 : x.base % 4096 = 0) : asksD bs x s = s := by
  unfold asksD
  rw [ask_ok (decide_eq_true h1), ask_ok (decide_eq_true h2), ask_ok (decide_eq_true h3), ask_ok (decide_eq_true h4), ask_ok (decide_eq_true h5), ask_ok (decide_eq_true h6), ask_ok (decide_eq_true (Nat.le_of_eq h7)), ask_ok (decide_eq_true (Nat.le_of_eq h7.symm)), ask_ok (decide_eq_true h8)]
theorem dir_ok' {E : Nat → En} {N : Nat} {s : D} : ∀ k, (∀ j, 1 ≤ j → j ≤ k → okD E N j = true) → dirS E N k s = s
  | 0, _ => rfl
  | k + 1, h => by rw [dirS, dir_ok' k (fun j h1 h2 => h j h1 (by omega)), ask_ok (h (k + 1) (by omega) (Nat.le_refl _))]
theorem zs_ok {bs : List Nat} {k e0 : Nat} {s : D} : ∀ n, (∀ i, i < n → bs.getD (e0 + i) 0 = 0) → zsS bs k e0 n s = s
  | 0, _ => rfl
  | n + 1, h => by rw [zsS, zs_ok n (fun i hi => h i (by omega)), ask_ok (decide_eq_true (h n (Nat.lt_succ_self n)))]
theorem seal_ok {E : Nat → En} {bs : List Nat} {s : D} : ∀ k, (∀ j, 1 ≤ j → j ≤ k → Pl.crc ((bs.drop (E j).f).take (E j).l) = (E j).c ∧ ∀ i, i < (E j).f - endN E bs.length (j - 1) → bs.getD (endN E bs.length (j - 1) + i) 0 = 0) → sealS E bs k s = s
  | 0, _ => rfl
  | k + 1, h => by
    obtain ⟨h1, h2⟩ := h (k + 1) (by omega) (Nat.le_refl _)
    rw [Nat.add_sub_cancel] at h2
    rw [sealS, seal_ok k (fun j a b => h j a (by omega)), zs_ok _ h2, ask_ok (decide_eq_true h1)]
theorem end_ok {q : Pt} {s : D} (h1 : s.rw = 0) (h2 : s.pos = q.Z.length) : endD q s = s := ask_ok (decide_eq_true ⟨h1, h2⟩)
theorem ent_back {q : Pt} {s : D} {x : En} (h : Ah q s (enB x)) (h1 : x.a < 65536) (h2 : x.b < 65536) (h3 : x.f < 4294967296) (h4 : x.l < 4294967296) (h5 : x.c < 4294967296) : entD q s = (x, fw s 16) := by
  have g1 := take_back h.left (by omega)
  have k1 := h.right
  rw [Pl.le_length] at k1
  have g2 := take_back k1.left (by omega)
  have k2 := k1.right
  rw [Pl.le_length] at k2
  have g3 := take_back k2.left (by omega)
  have k3 := k2.right
  rw [Pl.le_length] at k3
  have g4 := take_back k3.left (by omega)
  have k4 := k3.right
  rw [Pl.le_length] at k4
  have g5 := take_back k4 (by omega)
  simp only [entD, g1, g2, g3, g4, g5]
  simp only [fw_fw]
def enOk (x : En) : Prop := x.a < 65536 ∧ x.b < 65536 ∧ x.f < 4294967296 ∧ x.l < 4294967296 ∧ x.c < 4294967296
theorem ens_pre (E : Nat → En) (k : Nat) : ∀ n, k ≤ n → ∃ u, ensB E n = ensB E k ++ u
  | 0, h => ⟨[], by
    obtain rfl : k = 0 := by omega
    rfl⟩
  | n + 1, h => by
    by_cases e : k = n + 1
    · subst e; exact ⟨[], by simp⟩
    · obtain ⟨u, hu⟩ := ens_pre E k n (by omega)
      exact ⟨u ++ enB (E (n + 1)), by rw [ensB, hu, List.append_assoc]⟩
theorem ents_back {q : Pt} {s : D} {E : Nat → En} {n : Nat} (h : Ah q s (ensB E n)) (hE : ∀ j, 1 ≤ j → j ≤ n → enOk (E j)) : ∀ k, k ≤ n → entS q s k = fw s (16 * k) ∧ ∀ j, 1 ≤ j → j ≤ k → entE q s j = E j
  | 0, _ => ⟨(fw_zero h.rw0).symm, fun j h1 h2 => by omega⟩
  | k + 1, hk => by
    obtain ⟨i1, i2⟩ := ents_back h hE k (by omega)
    obtain ⟨u, hu⟩ := ens_pre E (k + 1) n hk
    rw [hu] at h
    have h9 := h.left
    rw [ensB] at h9
    have h8 := h9.right
    rw [ensB_len, ← i1] at h8
    obtain ⟨a, b, c, d, e⟩ := hE (k + 1) (by omega) hk
    have g := ent_back h8 a b c d e
    refine ⟨?_, fun j h1 h2 => ?_⟩
    · show (entD q (entS q s k)).2 = _
      rw [g, i1, fw_fw, Nat.mul_succ]
    · by_cases ej : j = k + 1
      · subst ej
        show (entD q (entS q s (k + 1 - 1))).1 = _
        rw [Nat.add_sub_cancel, g]
      · exact i2 j h1 (by omega)
theorem hd_back {q : Pt} {s : D} {x : Hd} {E : Nat → En} (h : Ah q s (hxB x E)) (hT : x.T.length = 8) (h1 : x.n1 < 65536) (h2 : x.n2 < 65536) (h3 : x.cnt < 4294967296) (h4 : x.base < 18446744073709551616) (h5 : x.sm < 4294967296) (h6 : x.zr < 4294967296) (hE : ∀ j, 1 ≤ j → j ≤ 8 → enOk (E j)) : (hdD q s).x = x ∧ (hdD q s).s = fw s 160 ∧ ∀ j, 1 ≤ j → j ≤ 8 → (hdD q s).E j = E j := by
  have h : Ah q s (x.T ++ (Pl.le 2 x.n1 ++ (Pl.le 2 x.n2 ++ (Pl.le 4 x.cnt ++ (Pl.le 8 x.base ++ (ensB E 8 ++ (Pl.le 4 x.sm ++ Pl.le 4 x.zr))))))) := h
  have g1 := bytes_back h.left
  have k1 := h.right
  rw [hT] at g1 k1
  have g2 := take_back k1.left (by omega)
  have k2 := k1.right
  rw [Pl.le_length] at k2
  have g3 := take_back k2.left (by omega)
  have k3 := k2.right
  rw [Pl.le_length] at k3
  have g4 := take_back k3.left (by omega)
  have k4 := k3.right
  rw [Pl.le_length] at k4
  have g5 := take_back k4.left (by omega)
  have k5 := k4.right
  rw [Pl.le_length] at k5
  obtain ⟨g6, hEE⟩ := ents_back k5.left hE 8 (Nat.le_refl 8)
  have k6 := k5.right
  rw [ensB_len] at k6
  have g7 := take_back k6.left (by omega)
  have k7 := k6.right
  rw [Pl.le_length] at k7
  have g8 := take_back k7 (by omega)
  have e : hdD q s = ⟨⟨x.T, x.n1, x.n2, x.cnt, x.base, x.sm, x.zr⟩, entE q (fw (fw (fw (fw (fw s 8) 2) 2) 4) 8), fw s 160⟩ := by
    unfold hdD
    simp only [g1, g2, g3, g4, g5]
    rw [g6]
    simp only [g7, g8]
    simp only [fw_fw]
  rw [e]
  exact ⟨rfl, rfl, hEE⟩
/-- what is laid: where each part stands in all bytes -/
theorem st_pre (I : Im) (j : Nat) : ∀ k, j ≤ k → ∃ u, (stN I k).1 = (stN I j).1 ++ u
  | 0, h => ⟨[], by
    obtain rfl : j = 0 := by omega
    simp⟩
  | k + 1, h => by
    by_cases e : j = k + 1
    · subst e; exact ⟨[], by simp⟩
    · obtain ⟨u, hu⟩ := st_pre I j k (by omega)
      obtain ⟨s1, _⟩ := st_next I k
      exact ⟨u ++ (bz (fstN I k - (stN I k).1.length) ++ secB I k), by rw [s1, hu, List.append_assoc]⟩
theorem st_sec (I : Im) {k : Nat} (hk : k < 9) : ((stN I 9).1.drop (fstN I k)).take (lenN I k) = secB I k ∧ ((stN I 9).1.drop (stN I k).1.length).take (fstN I k - (stN I k).1.length) = bz (fstN I k - (stN I k).1.length) ∧ lenN I k = (secB I k).length := by
  obtain ⟨u, hu⟩ := st_pre I (k + 1) 9 (by omega)
  obtain ⟨s1, _⟩ := st_next I k
  have hb := (beg_le k (stN I k).1.length).2
  have hf : fstN I k = begN k (stN I k).1.length := rfl
  rw [← hf] at hb
  have hl : lenN I k = (secB I k).length := by
    have h9 := congrArg List.length s1
    rw [List.length_append, List.length_append, bz_len] at h9
    rw [lenN, h9]
    omega
  refine ⟨?_, ?_, hl⟩
  · obtain ⟨n, hn⟩ : ∃ n, fstN I k - (stN I k).1.length = n := ⟨_, rfl⟩
    rw [hn] at s1
    rw [hu, s1, hl, List.append_assoc, List.append_assoc, show fstN I k = (stN I k).1.length + n by omega, ← List.drop_drop, List.drop_left, List.drop_left' (bz_len n), List.take_left]
  · rw [hu, s1, List.append_assoc, List.append_assoc, List.drop_left, List.take_left' (bz_len _)]
theorem st_fit {I : Im} : ∀ k, (stN I k).2 = 0 → ∀ j, j < k → fitK I j
  | 0, _, j, h => by omega
  | k + 1, hw, j, h => by
    obtain ⟨a, b⟩ := (st_next I k).2.1 hw
    by_cases e : j = k
    · subst e; exact b
    · exact st_fit k a j (by omega)
end Dc
end Go.Proofs.YtnifefmfhjfbnaaGreatDoor
