import Derived.Test.YtnifefmfhjfbnaaGreatDoorPk48
import Derived.Test.YtnifefmfhjfbnaaGreatDoorPk43
import Derived.Test.YtnifefmfhjfbnaaGreatDoorPk36
/- Bundle: Decode. Own work. -/
namespace Go.Proofs.YtnifefmfhjfbnaaGreatDoor
open Go.RowKit Bn Dc
set_option linter.unusedVariables false
set_option linter.unusedSimpArgs false
set_option maxRecDepth 100000 in
theorem rd_build {ao : Option Addr} {n cap : Nat} (W : World) : (Instr.build 66 #[(0, .slice ao n cap)]).run Tryz.prog W = .ok (.agg (rdN (.slice ao n cap) im0 en0 0 (.pointer none) 0 0 0).toArray) W := run_build W _ _ _ (by kernel_rfl)
def whA (sec ad : Int) : Array Value := #[.int .i64 sec, .int .i64 ad]
theorem info_wh (sec ad : Int) : (Tryz.prog.info? 41).map (·.size) = some (whA sec ad).size := by kernel_rfl
theorem dec_results {T : Array Value} {W : World} {b1 b2 : Nat} {im : List Value} {sec ad : Int} {y : Value} (h2 : T[2]?.getD undef = .pointer (some ⟨b1, 0, none⟩)) (h3 : T[3]?.getD undef = .pointer (some ⟨b2, 0, none⟩)) (h4 : T[4]?.getD undef = y) (k1 : W.heap[b1]? = some (.cells im.toArray 37 (0, 0))) (hl : im.length = 12) (k2 : W.heap[b2]? = some (.cells (whA sec ad) 41 (0, 0))) : (results Tryz.f9 T).run Tryz.prog W = .ok (.tuple #[.agg im.toArray, .agg (whA sec ad), y]) W := by
 have l1 : (loadVar 37 ⟨b1, 0, none⟩).run Tryz.prog W = .ok (.agg im.toArray) W := run_loadVar_row _ _ _ _ _ _ _ k1 Tryz.underlying37 rfl (info_im hl)
 have l2 : (loadVar 41 ⟨b2, 0, none⟩).run Tryz.prog W = .ok (.agg (whA sec ad)) W := run_loadVar_row _ _ _ _ _ _ _ k2 Tryz.underlying41 rfl (info_wh sec ad)
 simp only [results, Tryz.results9]
 simp [Sem.run_bind, Result.andThen, h2, h3, h4, asAddr, l1, l2]
/-- what Decode answers -/
def DecQ (bs : List Nat) (e : Ending) (w' : World) : Prop := ((decA bs).why = 0 ∧ ∃ im, e = .returned (.tuple #[.agg im.toArray, .agg (whA 0 0), .int .i64 0]) ∧ im.length = 12 ∧ ImD w' im (decA bs).J) ∨ ((decA bs).why ≠ 0 ∧ e = .returned (.tuple #[.agg im0.toArray, .agg (whA (decA bs).sec (decA bs).ad), .int .i64 (decA bs).why]))
theorem row_keeps (w : World) (b : Nat) (c : Array Value) : Keeps (fun k => k = b) w (w.setRow b c) := ⟨rfl, rfl, rfl, by simp [World.setRow], fun k _ hk => by
 simp only [World.setRow, Array.getElem?_modify]
 rw [if_neg (fun e => hk e.symm)]⟩
theorem set_other {w : World} {b i j : Nat} (u : Value) (b' : Unit := ()) (h : j ≠ b) : (w.setCell ⟨b, i, none⟩ u).heap[j]? = w.heap[j]? := by
 simp only [World.setCell, Array.getElem?_modify]
 rw [if_neg (fun e => h e.symm)]
theorem OwnG.kt {Z : Nat → Prop} {β : Type} {t : TypeId} {k : Nat} {enc : β → List Value} {w w' : World} {base : Nat} {v : Value} {xs : List β} (h : OwnG t k enc w base v xs) (hf : Keeps Z w w') (hz : ∀ j, Tagd w t j → ¬ Z j) : OwnG t k enc w' base v xs := by
 obtain ⟨_, _, _, _, _, hj⟩ := h.form
 exact h.keeps hf (fun j e => hz j (hj j e).2.2)
def ZIw (w : World) (k : Nat) : Prop := Tagd w 37 k ∨ Tagd w 41 k
theorem ZIw.no {w : World} {t : TypeId} (h1 : t ≠ 37) (h2 : t ≠ 41) (j : Nat) (h : Tagd w t j) : ¬ ZIw w j := fun e => by
 rcases e with e | e
 ·exact h1 (tag_same h e)
 ·exact h2 (tag_same h e)
theorem ImD.kt {w w' : World} {im : List Value} {J : Im} (h : ImD w im J) (hf : Keeps (ZIw w) w w') : ImD w' im J := by
 obtain ⟨h0, ⟨v1, a1, b1⟩, ⟨v2, a2, b2⟩, ⟨v3, a3, b3⟩, ⟨v4, a4, b4⟩, ⟨v5, a5, b5⟩, ⟨v6, a6, b6⟩, ⟨v7, a7, b7⟩, ⟨v8, a8, us, b8, c8⟩, h9, h10, ⟨v11, a11, b11⟩⟩ := h
 exact ⟨h0, ⟨v1, a1, b1.kt hf (ZIw.no (by decide) (by decide))⟩, ⟨v2, a2, b2.kt hf (ZIw.no (by decide) (by decide))⟩, ⟨v3, a3, b3.kt hf (ZIw.no (by decide) (by decide))⟩, ⟨v4, a4, b4.kt hf (ZIw.no (by decide) (by decide))⟩, ⟨v5, a5, b5.kt hf (ZIw.no (by decide) (by decide))⟩, ⟨v6, a6, b6.kt hf (ZIw.no (by decide) (by decide))⟩, ⟨v7, a7, b7.kt hf (ZIw.no (by decide) (by decide))⟩, ⟨v8, a8, us, b8.kt hf (ZIw.no (by decide) (by decide)), c8.imp (fun x y ⟨e, vs, o, t⟩ => ⟨e, vs, o.kt hf (ZIw.no (by decide) (by decide)), t.imp (fun a b o => o.kt hf (ZIw.no (by decide) (by decide)))⟩)⟩, h9, h10, ⟨v11, a11, b11.kt hf (ZIw.no (by decide) (by decide))⟩⟩
theorem row_ne {w : World} {b i : Nat} (hc : i ≠ b) (d : Array Value) : (w.setRow b d).heap[i]? = w.heap[i]? := by
 simp only [World.setRow, Array.getElem?_modify]
 rw [if_neg (fun e => hc e.symm)]
/-- cells of one block are stored, one by one -/
def setsW (b : Nat) : List (Nat × Value) → World → World
 | [], w => w
 | p :: r, w => setsW b r (w.setCell ⟨b, p.1, none⟩ p.2)
theorem sets_heap {b : Nat} {t : TypeId} : ∀ (L : List (Nat × Value)) {w : World} {cs : List Value}, w.heap[b]? = some (.cells cs.toArray t (0, 0)) → (setsW b L w).heap[b]? = some (.cells (L.foldl (fun cs p => cs.set p.1 p.2) cs).toArray t (0, 0))
 | [], _, _, h => h
 | p :: r, _, _, h => sets_heap r (box_set h p.1 p.2)
theorem sets_other {b j : Nat} (hj : j ≠ b) : ∀ (L : List (Nat × Value)) (w : World), (setsW b L w).heap[j]? = w.heap[j]?
 | [], _ => rfl
 | p :: r, w => (sets_other hj r _).trans (set_other p.2 () hj)
theorem sets_below {b n : Nat} (hb : n ≤ b) {w : World} : ∀ (L : List (Nat × Value)) {w2 : World}, Below n w w2 → Below n w (setsW b L w2)
 | [], _, h => h
 | p :: r, _, h => sets_below hb r (h.setCell hb p.2)
def stoL : List (Nat × Value) := [(0, .int .u64 0), (1, .slice none 0 0), (2, .slice none 0 0), (3, .slice none 0 0), (4, .slice none 0 0), (5, .slice none 0 0), (6, .slice none 0 0), (7, .slice none 0 0), (8, .slice none 0 0), (9, .int .i64 0), (10, .int .i64 0), (11, .slice none 0 0)]
theorem drew_heap (w : World) : w.drew.heap = w.heap := rfl
theorem sto_a {a b : Nat} {t : TypeId} {L1 L2 : List (Nat × Value)} {cs : List Value} {w2 : World} (hab : a ≠ b) (h1 : w2.heap[a]? = some (.cells cs.toArray t (0, 0))) : (setsW b L2 (setsW a L1 w2)).drew.heap[a]? = some (.cells (L1.foldl (fun cs p => cs.set p.1 p.2) cs).toArray t (0, 0)) := by
 rw [drew_heap, sets_other hab]
 exact sets_heap L1 h1
theorem sto_b {a b : Nat} {t : TypeId} {L1 L2 : List (Nat × Value)} {cs : List Value} {w2 : World} (hab : a ≠ b) (h2 : w2.heap[b]? = some (.cells cs.toArray t (0, 0))) : (setsW b L2 (setsW a L1 w2)).drew.heap[b]? = some (.cells (L2.foldl (fun cs p => cs.set p.1 p.2) cs).toArray t (0, 0)) := by
 rw [drew_heap]
 refine sets_heap L2 ?_
 rw [sets_other (Ne.symm hab)]
 exact h2
theorem sto_c {a b n : Nat} {L1 L2 : List (Nat × Value)} {w w2 : World} (h : Below n w w2) (ha : n ≤ a) (hb : n ≤ b) : Below n w (setsW b L2 (setsW a L1 w2)).drew := (sets_below hb L2 (sets_below ha L1 h)).trans ⟨rfl, rfl, rfl, Nat.le_refl _, fun _ _ => rfl⟩
theorem fold_im0 : stoL.foldl (fun cs p => cs.set p.1 p.2) im0 = im0 := rfl
theorem fold_wh (sec ad : Int) : ([(0, .int .i64 sec), (1, .int .i64 ad)] : List (Nat × Value)).foldl (fun cs p => cs.set p.1 p.2) [.int .i64 0, .int .i64 0] = [.int .i64 sec, .int .i64 ad] := rfl
def stoD (a b : Nat) (sec ad : Int) (w2 : World) : World := (setsW b [(0, .int .i64 sec), (1, .int .i64 ad)] (setsW a stoL w2)).drew
theorem sto_heap {a b : Nat} {sec ad : Int} {w2 : World} (hab : a ≠ b) (h1 : w2.heap[a]? = some (.cells im0.toArray 37 (0, 0))) (h2 : w2.heap[b]? = some (.cells (whA 0 0) 41 (0, 0))) : (stoD a b sec ad w2).heap[a]? = some (.cells im0.toArray 37 (0, 0)) ∧ (stoD a b sec ad w2).heap[b]? = some (.cells (whA sec ad) 41 (0, 0)) := by
 have r1 := sto_a (L1 := stoL) (L2 := [(0, .int .i64 sec), (1, .int .i64 ad)]) hab h1
 have r2 := sto_b (L1 := stoL) (L2 := [(0, .int .i64 sec), (1, .int .i64 ad)]) (cs := [.int .i64 0, .int .i64 0]) hab h2
 rw [fold_im0] at r1
 rw [fold_wh] at r2
 exact ⟨r1, r2⟩
theorem sto_below {a b n : Nat} {sec ad : Int} {w w2 : World} (h : Below n w w2) (ha : n ≤ a) (hb : n ≤ b) : Below n w (stoD a b sec ad w2) := sto_c h ha hb
/-- all, of any bytes -/
theorem dall_any {B kb : Nat} {w0 w : World} {v : Value} {bs : List Nat} (h : Dn B kb v im0 en0 0 (.pointer none) w0 0 0 0 w) (hraw : ∀ W, Fd B w0 W → Sl W v bs) (ht : ∀ W, Fd B w0 W → Tab W) : Calls Tryz.prog 19 #[.pointer (some ⟨kb, 0, none⟩)] w fun e w' => e = .returned (.tuple #[]) ∧ AllQ B kb v bs w0 w' := by
 have h9 := hraw w h.fr
 by_cases hl : bs.length < 160
 ·obtain ⟨ao, cap, rfl, _⟩ := h9
  refine (dallShortX h hl hraw).mono (fun e w' ⟨he, im, en, pt, pv, hd⟩ => ⟨he, im, en, pt, pv, ?_, fun hy => ?_⟩)
  ·rw [decA, if_pos hl]
   exact hd
  ·rw [decA, if_pos hl] at hy
   exact absurd hy (show ¬ (10 : Int) = 0 by decide)
 ·obtain ⟨rb, ro, cap, rfl, _⟩ := h9.pos (by omega)
  exact dallX h (by omega) hraw ht
theorem wpList_load_tyR {ops : Array Oper} {rest : List Oper} {o : Oper} {a : Act} {w : World} {Q : Exit → Act → World → Prop} (hgd : o.guard = none) (ty : TypeId) (x : Operand) (ho : o.op = .load ty x) {p V : Value} (hx : a.eval x = p) (hl : (Instr.loadAt ty p).run Tryz.prog w = .ok V w) (hk : wpList Tryz.prog ops Q rest (a.put o.dst V) w) : wpList Tryz.prog ops Q (o :: rest) a w :=
 wpList_plain hgd fun K hK => by
  unfold Oper.wp execOp
  simp only [ho, hx, Sem.run_bind, Sem.run_pure, Result.andThen_ok, hl]
  exact hK _ _ hk
theorem im_load {B kb : Nat} {raw : Value} {im en : List Value} {pt : Int} {pv : Value} {w0 w : World} {why sec ad : Int} (h : Dn B kb raw im en pt pv w0 why sec ad w) : (Instr.loadAt 37 (.pointer (some ⟨kb, 1, none⟩))).run Tryz.prog w = .ok (.agg im.toArray) w := by
 have hS : Tryz.prog.underlying 37 = some (.struct (Tryz.prog.fieldsOf 37)) := by kernel_rfl
 have hz : (Tryz.prog.info? 37).map (·.size) = some im.length := by rw [h.him]; kernel_rfl
 exact run_loadAt_mid (P := Tryz.prog) w kb 1 37 im _ (fun j x hx => by
  have hj := (List.getElem?_eq_some_iff.1 hx).1
  rw [h.cell, rdN, show 1 + j = j + 1 by omega, List.getElem?_cons_succ, List.getElem?_append_left hj]
  exact hx) hS rfl hz
set_option maxRecDepth 100000 in
set_option maxHeartbeats 16000000 in
theorem decodeX {w : World} {v : Value} {bs : List Nat} (hs : Sl w v bs) (ht : Tab w) : Calls Tryz.prog 9 #[v] w fun e w' => DecQ bs e w' ∧ Below w.heap.size w w' := by
 obtain ⟨ao, cap, hv, _⟩ := id hs
 obtain ⟨W1, hW1⟩ : ∃ W, w.alloc (.cells im0.toArray 37) = W := ⟨_, rfl⟩
 obtain ⟨W2, hW2⟩ : ∃ W, W1.alloc (.cells (whA 0 0) 41) = W := ⟨_, rfl⟩
 obtain ⟨W3, hW3⟩ : ∃ W, W2.alloc (.cells (rdN v im0 en0 0 (.pointer none) 0 0 0).toArray 66) = W := ⟨_, rfl⟩
 have s1 : W1.heap.size = w.heap.size + 1 := by rw [← hW1]; simp
 have s2 : W2.heap.size = w.heap.size + 2 := by rw [← hW2]; simp [s1]
 have s3 : W3.heap.size = w.heap.size + 3 := by rw [← hW3]; simp [s2]
 have b1 : Below w.heap.size w W1 := by rw [← hW1]; exact (Below.refl _ _).alloc (Nat.le_refl _) _
 have b2 : Below W1.heap.size W1 W2 := by rw [← hW2]; exact (Below.refl _ _).alloc (Nat.le_refl _) _
 have b3 : Below W2.heap.size W2 W3 := by rw [← hW3]; exact (Below.refl _ _).alloc (Nat.le_refl _) _
 have b13 : Below W1.heap.size W1 W3 := b2.trans (b3.mono (by omega))
 have b03 : Below w.heap.size w W3 := b1.trans (b13.mono (by omega))
 have k1 : W3.heap[w.heap.size]? = some (.cells im0.toArray 37 (0, 0)) := (b13.block w.heap.size (by omega)).trans (by rw [← hW1]; exact heap_alloc_new w _)
 have k2 : W3.heap[w.heap.size + 1]? = some (.cells (whA 0 0) 41 (0, 0)) := (b3.block (w.heap.size + 1) (by omega)).trans (by rw [← hW2, ← s1]; exact heap_alloc_new W1 _)
 have k3 : W3.heap[w.heap.size + 2]? = some (.cells (rdN v im0 en0 0 (.pointer none) 0 0 0).toArray 66 (0, 0)) := by rw [← hW3, ← s2]; exact heap_alloc_new W2 _
 have hf : ∀ W, Fd (w.heap.size + 2) W3 W → Below (w.heap.size + 2) W3 W := fun W hW => hW.below (by have := b3.size; omega)
 have hA := dall_any (B := w.heap.size + 2) (kb := w.heap.size + 2) (w0 := W3) (w := W3) (v := v) (bs := bs) ⟨k3, rfl, rfl, Nat.le_refl _, Fd.refl _ _⟩ (fun W hW => hs.below (b03.trans ((hf W hW).mono (by omega)))) (fun W hW => ht.below (b03.trans ((hf W hW).mono (by omega))))
 have HA := Lib.hid hA
 have K1 : Hid (∀ W, Fd (w.heap.size + 2) W3 W → W.heap[w.heap.size]? = some (.cells im0.toArray 37 (0, 0)) ∧ W.heap[w.heap.size + 1]? = some (.cells (whA 0 0) 41 (0, 0)) ∧ Below w.heap.size w W) := fun W hW => ⟨((hf W hW).block w.heap.size (by omega)).trans k1, ((hf W hW).block (w.heap.size + 1) (by omega)).trans k2, b03.trans ((hf W hW).mono (by omega))⟩
 subst hv
 have HB := Lib.hid (fun W => rd_build (ao := ao) (n := bs.length) (cap := cap) W)
 clear hs ht k1 k2 k3 hf hA b1 b2 b3 b13 b03
 obtain ⟨y, hy⟩ : ∃ y, (decA bs).why = y := ⟨_, rfl⟩
 obtain ⟨sec, hsec⟩ : ∃ y, (decA bs).sec = y := ⟨_, rfl⟩
 obtain ⟨ad, had⟩ : ∃ y, (decA bs).ad = y := ⟨_, rfl⟩
 have HG : Hid (DecQ bs = fun e w' => (y = 0 ∧ ∃ im, e = .returned (.tuple #[.agg im.toArray, .agg (whA 0 0), .int .i64 0]) ∧ im.length = 12 ∧ ImD w' im (decA bs).J) ∨ (y ≠ 0 ∧ e = .returned (.tuple #[.agg im0.toArray, .agg (whA sec ad), .int .i64 y]))) := show _ = _ by
  funext e w'
  rw [← hy, ← hsec, ← had]
  rfl
 rw [HG.out]
 have HY := Lib.hid hy
 have HSe := Lib.hid hsec
 have HAd := Lib.hid had
 clear HG hy hsec had
 go_enter Tryz.func9, Tryz.ntmps9
 go_wp2_with (refine wpList_lbuild rfl 66 #[(0, .tmp 6)] rfl #[(0, .slice ao bs.length cap)] (by simp [Act.eval, Act.put]) (fun W => HB.out W) ?_)
 subst hW3 hW2 hW1
 refine HA.out.mono ?_
 rintro e w2 ⟨rfl, im, en, pt, pv, hd, hi⟩
 obtain ⟨q1, q2, q3⟩ := K1.out _ hd.fr
 have hl := hd.him
 have HQ1 := Lib.hid q1
 have HQ2 := Lib.hid q2
 have HQ3 := Lib.hid q3
 have HD := Lib.hid hd
 have HI := Lib.hid hi
 have HL : Hid (im.length = 12) := hl
 rw [HY.out, HSe.out, HAd.out] at HD
 rw [HY.out] at HI
 have c62 : w2.cell? ⟨w.heap.size + 2, 62, none⟩ = some (.int .i64 y) := HD.out.cend 4
 have HC : Hid (w2.cell? ⟨w.heap.size + 2, 60, none⟩ = some (.int .i64 sec) ∧ w2.cell? ⟨w.heap.size + 2, 61, none⟩ = some (.int .i64 ad)) := ⟨HD.out.cend 2, HD.out.cend 3⟩
 clear hd hi q1 q2 q3 hl HY HSe HAd HA K1 HB
 dsimp only
 by_cases hy0 : y = 0
 ·subst hy0
  have HO : Hid (im.toArray.all (·.oneCell') = true) := (HI.out rfl).one HL.out
  have HI0 : Hid (ImD w2 im (decA bs).J) := HI.out rfl
  clear HI
  have HM : Hid ((Instr.loadAt 37 (.pointer (some ⟨w.heap.size + 1 + 1, 1, none⟩))).run Tryz.prog w2 = .ok (.agg im.toArray) w2) := im_load HD.out
  have HW2 : Hid ((w2.setRow w.heap.size im.toArray).heap[w.heap.size + 1]? = some (.cells (whA 0 0) 41 (0, 0))) := show _ = _ by rw [row_ne (by omega) _]; exact HQ2.out
  have HF1 : Hid (((w2.setRow w.heap.size im.toArray).setRow (w.heap.size + 1) (whA 0 0)).heap[w.heap.size]? = some (.cells im.toArray 37 (0, 0))) := show _ = _ by rw [row_ne (by omega) _]; exact setRow_heap _ _ _ _ _ _ HQ1.out
  have HF2 : Hid (((w2.setRow w.heap.size im.toArray).setRow (w.heap.size + 1) (whA 0 0)).heap[w.heap.size + 1]? = some (.cells (whA 0 0) 41 (0, 0))) := setRow_heap _ _ _ _ _ _ HW2.out
  go_wp2_with (first | (refine wpList_load_tyR rfl 37 (.tmp 27) rfl rfl HM.out ?_) | (refine wpList_store_arr rfl 37 (.tmp 2) (.tmp 28) rfl (b := w.heap.size) (Z := im0.toArray) (g := im.toArray) rfl rfl rfl HQ1.out (info_im HL.out) (by simp [HL.out, im0]) HO.out ?_) | (refine wpList_store_arr rfl 41 (.tmp 3) (.tmp 29) rfl (b := w.heap.size + 1) (Z := whA 0 0) (g := whA 0 0) rfl rfl rfl HW2.out (info_wh 0 0) rfl (by kernel_rfl) ?_))
  refine bodyPost_ret (dec_results rfl rfl rfl HF1.out HL.out HF2.out) rfl ?_
  refine ⟨⟨im, rfl, HL.out, HI0.out.kt (w' := (w2.setRow w.heap.size im.toArray).setRow (w.heap.size + 1) (whA 0 0)) ?_⟩, ?_⟩
  ·refine (Keeps.mono (row_keeps w2 w.heap.size _) (fun k _ e => ?_)).trans (row_keeps _ (w.heap.size + 1) _) (fun k _ e => ?_)
   ·subst e
    exact .inl ⟨_, HQ1.out⟩
   ·subst e
    exact .inr ⟨_, HQ2.out⟩
  ·exact HQ3.out.trans ((below_setRow _ _ _ _ (Nat.le_refl _)).trans (below_setRow _ _ _ _ (by omega)))
 ·go_upto_region 4 with fail
  have FR2 : Hid (∀ (W : World) b c t, W.heap[b]? = some (.cells c t (0, 0)) → ∀ i, W.frozen? ⟨b, i, none⟩ = false) := fun W b c t h i => box_free h i
  have FR : Hid (∀ (W : World) b c t, W.heap[b]? = some (.cells c t (0, 0)) → ∀ i, W.drew.frozen? ⟨b, i, none⟩ = false) := fun W b c t h i => box_free (show W.drew.heap[b]? = some (.cells c t (0, 0)) from h) i
  have y0 : w2.drew.cell? ⟨w.heap.size, 0, none⟩ = some (.int .u64 0) := by rw [show w2.drew.cell? ⟨w.heap.size, 0, none⟩ = w2.cell? ⟨w.heap.size, 0, none⟩ from rfl, cell_of_row _ _ 0 _ _ _ HQ1.out]; rfl
  have z0 : w2.drew.frozen? ⟨w.heap.size, 0, none⟩ = false := FR.out _ _ _ _ HQ1.out _
  have y1 : w2.drew.cell? ⟨w.heap.size, 1, none⟩ = some (.slice none 0 0) := by rw [show w2.drew.cell? ⟨w.heap.size, 1, none⟩ = w2.cell? ⟨w.heap.size, 1, none⟩ from rfl, cell_of_row _ _ 1 _ _ _ HQ1.out]; rfl
  have z1 : w2.drew.frozen? ⟨w.heap.size, 1, none⟩ = false := FR.out _ _ _ _ HQ1.out _
  have y2 : w2.drew.cell? ⟨w.heap.size, 2, none⟩ = some (.slice none 0 0) := by rw [show w2.drew.cell? ⟨w.heap.size, 2, none⟩ = w2.cell? ⟨w.heap.size, 2, none⟩ from rfl, cell_of_row _ _ 2 _ _ _ HQ1.out]; rfl
  have z2 : w2.drew.frozen? ⟨w.heap.size, 2, none⟩ = false := FR.out _ _ _ _ HQ1.out _
  have y3 : w2.drew.cell? ⟨w.heap.size, 3, none⟩ = some (.slice none 0 0) := by rw [show w2.drew.cell? ⟨w.heap.size, 3, none⟩ = w2.cell? ⟨w.heap.size, 3, none⟩ from rfl, cell_of_row _ _ 3 _ _ _ HQ1.out]; rfl
  have z3 : w2.drew.frozen? ⟨w.heap.size, 3, none⟩ = false := FR.out _ _ _ _ HQ1.out _
  have y4 : w2.drew.cell? ⟨w.heap.size, 4, none⟩ = some (.slice none 0 0) := by rw [show w2.drew.cell? ⟨w.heap.size, 4, none⟩ = w2.cell? ⟨w.heap.size, 4, none⟩ from rfl, cell_of_row _ _ 4 _ _ _ HQ1.out]; rfl
  have z4 : w2.drew.frozen? ⟨w.heap.size, 4, none⟩ = false := FR.out _ _ _ _ HQ1.out _
  have y5 : w2.drew.cell? ⟨w.heap.size, 5, none⟩ = some (.slice none 0 0) := by rw [show w2.drew.cell? ⟨w.heap.size, 5, none⟩ = w2.cell? ⟨w.heap.size, 5, none⟩ from rfl, cell_of_row _ _ 5 _ _ _ HQ1.out]; rfl
  have z5 : w2.drew.frozen? ⟨w.heap.size, 5, none⟩ = false := FR.out _ _ _ _ HQ1.out _
  have y6 : w2.drew.cell? ⟨w.heap.size, 6, none⟩ = some (.slice none 0 0) := by rw [show w2.drew.cell? ⟨w.heap.size, 6, none⟩ = w2.cell? ⟨w.heap.size, 6, none⟩ from rfl, cell_of_row _ _ 6 _ _ _ HQ1.out]; rfl
  have z6 : w2.drew.frozen? ⟨w.heap.size, 6, none⟩ = false := FR.out _ _ _ _ HQ1.out _
  have y7 : w2.drew.cell? ⟨w.heap.size, 7, none⟩ = some (.slice none 0 0) := by rw [show w2.drew.cell? ⟨w.heap.size, 7, none⟩ = w2.cell? ⟨w.heap.size, 7, none⟩ from rfl, cell_of_row _ _ 7 _ _ _ HQ1.out]; rfl
  have z7 : w2.drew.frozen? ⟨w.heap.size, 7, none⟩ = false := FR.out _ _ _ _ HQ1.out _
  have y8 : w2.drew.cell? ⟨w.heap.size, 8, none⟩ = some (.slice none 0 0) := by rw [show w2.drew.cell? ⟨w.heap.size, 8, none⟩ = w2.cell? ⟨w.heap.size, 8, none⟩ from rfl, cell_of_row _ _ 8 _ _ _ HQ1.out]; rfl
  have z8 : w2.drew.frozen? ⟨w.heap.size, 8, none⟩ = false := FR.out _ _ _ _ HQ1.out _
  have y9 : w2.drew.cell? ⟨w.heap.size, 9, none⟩ = some (.int .i64 0) := by rw [show w2.drew.cell? ⟨w.heap.size, 9, none⟩ = w2.cell? ⟨w.heap.size, 9, none⟩ from rfl, cell_of_row _ _ 9 _ _ _ HQ1.out]; rfl
  have z9 : w2.drew.frozen? ⟨w.heap.size, 9, none⟩ = false := FR.out _ _ _ _ HQ1.out _
  have y10 : w2.drew.cell? ⟨w.heap.size, 10, none⟩ = some (.int .i64 0) := by rw [show w2.drew.cell? ⟨w.heap.size, 10, none⟩ = w2.cell? ⟨w.heap.size, 10, none⟩ from rfl, cell_of_row _ _ 10 _ _ _ HQ1.out]; rfl
  have z10 : w2.drew.frozen? ⟨w.heap.size, 10, none⟩ = false := FR.out _ _ _ _ HQ1.out _
  have y11 : w2.drew.cell? ⟨w.heap.size, 11, none⟩ = some (.slice none 0 0) := by rw [show w2.drew.cell? ⟨w.heap.size, 11, none⟩ = w2.cell? ⟨w.heap.size, 11, none⟩ from rfl, cell_of_row _ _ 11 _ _ _ HQ1.out]; rfl
  have z11 : w2.drew.frozen? ⟨w.heap.size, 11, none⟩ = false := FR.out _ _ _ _ HQ1.out _
  have v0 : w2.drew.cell? ⟨w.heap.size + 1, 0, none⟩ = some (.int .i64 0) := by rw [show w2.drew.cell? ⟨w.heap.size + 1, 0, none⟩ = w2.cell? ⟨w.heap.size + 1, 0, none⟩ from rfl, cell_of_row _ _ 0 _ _ _ HQ2.out]; rfl
  have u0 : w2.drew.frozen? ⟨w.heap.size + 1, 0, none⟩ = false := FR.out _ _ _ _ HQ2.out _
  have v1 : w2.drew.cell? ⟨w.heap.size + 1, 1, none⟩ = some (.int .i64 0) := by rw [show w2.drew.cell? ⟨w.heap.size + 1, 1, none⟩ = w2.cell? ⟨w.heap.size + 1, 1, none⟩ from rfl, cell_of_row _ _ 1 _ _ _ HQ2.out]; rfl
  have u1 : w2.drew.frozen? ⟨w.heap.size + 1, 1, none⟩ = false := FR.out _ _ _ _ HQ2.out _
  have y0' : w2.cell? ⟨w.heap.size, 0, none⟩ = some (.int .u64 0) := by rw [cell_of_row _ _ 0 _ _ _ HQ1.out]; rfl
  have z0' : w2.frozen? ⟨w.heap.size, 0, none⟩ = false := FR2.out _ _ _ _ HQ1.out _
  have y1' : w2.cell? ⟨w.heap.size, 1, none⟩ = some (.slice none 0 0) := by rw [cell_of_row _ _ 1 _ _ _ HQ1.out]; rfl
  have z1' : w2.frozen? ⟨w.heap.size, 1, none⟩ = false := FR2.out _ _ _ _ HQ1.out _
  have y2' : w2.cell? ⟨w.heap.size, 2, none⟩ = some (.slice none 0 0) := by rw [cell_of_row _ _ 2 _ _ _ HQ1.out]; rfl
  have z2' : w2.frozen? ⟨w.heap.size, 2, none⟩ = false := FR2.out _ _ _ _ HQ1.out _
  have y3' : w2.cell? ⟨w.heap.size, 3, none⟩ = some (.slice none 0 0) := by rw [cell_of_row _ _ 3 _ _ _ HQ1.out]; rfl
  have z3' : w2.frozen? ⟨w.heap.size, 3, none⟩ = false := FR2.out _ _ _ _ HQ1.out _
  have y4' : w2.cell? ⟨w.heap.size, 4, none⟩ = some (.slice none 0 0) := by rw [cell_of_row _ _ 4 _ _ _ HQ1.out]; rfl
  have z4' : w2.frozen? ⟨w.heap.size, 4, none⟩ = false := FR2.out _ _ _ _ HQ1.out _
  have y5' : w2.cell? ⟨w.heap.size, 5, none⟩ = some (.slice none 0 0) := by rw [cell_of_row _ _ 5 _ _ _ HQ1.out]; rfl
  have z5' : w2.frozen? ⟨w.heap.size, 5, none⟩ = false := FR2.out _ _ _ _ HQ1.out _
  have y6' : w2.cell? ⟨w.heap.size, 6, none⟩ = some (.slice none 0 0) := by rw [cell_of_row _ _ 6 _ _ _ HQ1.out]; rfl
  have z6' : w2.frozen? ⟨w.heap.size, 6, none⟩ = false := FR2.out _ _ _ _ HQ1.out _
  have y7' : w2.cell? ⟨w.heap.size, 7, none⟩ = some (.slice none 0 0) := by rw [cell_of_row _ _ 7 _ _ _ HQ1.out]; rfl
  have z7' : w2.frozen? ⟨w.heap.size, 7, none⟩ = false := FR2.out _ _ _ _ HQ1.out _
  have y8' : w2.cell? ⟨w.heap.size, 8, none⟩ = some (.slice none 0 0) := by rw [cell_of_row _ _ 8 _ _ _ HQ1.out]; rfl
  have z8' : w2.frozen? ⟨w.heap.size, 8, none⟩ = false := FR2.out _ _ _ _ HQ1.out _
  have y9' : w2.cell? ⟨w.heap.size, 9, none⟩ = some (.int .i64 0) := by rw [cell_of_row _ _ 9 _ _ _ HQ1.out]; rfl
  have z9' : w2.frozen? ⟨w.heap.size, 9, none⟩ = false := FR2.out _ _ _ _ HQ1.out _
  have y10' : w2.cell? ⟨w.heap.size, 10, none⟩ = some (.int .i64 0) := by rw [cell_of_row _ _ 10 _ _ _ HQ1.out]; rfl
  have z10' : w2.frozen? ⟨w.heap.size, 10, none⟩ = false := FR2.out _ _ _ _ HQ1.out _
  have y11' : w2.cell? ⟨w.heap.size, 11, none⟩ = some (.slice none 0 0) := by rw [cell_of_row _ _ 11 _ _ _ HQ1.out]; rfl
  have z11' : w2.frozen? ⟨w.heap.size, 11, none⟩ = false := FR2.out _ _ _ _ HQ1.out _
  have v0' : w2.cell? ⟨w.heap.size + 1, 0, none⟩ = some (.int .i64 0) := by rw [cell_of_row _ _ 0 _ _ _ HQ2.out]; rfl
  have u0' : w2.frozen? ⟨w.heap.size + 1, 0, none⟩ = false := FR2.out _ _ _ _ HQ2.out _
  have v1' : w2.cell? ⟨w.heap.size + 1, 1, none⟩ = some (.int .i64 0) := by rw [cell_of_row _ _ 1 _ _ _ HQ2.out]; rfl
  have u1' : w2.frozen? ⟨w.heap.size + 1, 1, none⟩ = false := FR2.out _ _ _ _ HQ2.out _
  have x60' : w2.cell? ⟨w.heap.size + 1 + 1, 60, none⟩ = some (.int .i64 sec) := HC.out.1
  have x61' : w2.cell? ⟨w.heap.size + 1 + 1, 61, none⟩ = some (.int .i64 ad) := HC.out.2
  have x62' : w2.cell? ⟨w.heap.size + 1 + 1, 62, none⟩ = some (.int .i64 y) := c62
  have x60 : w2.drew.cell? ⟨w.heap.size + 1 + 1, 60, none⟩ = some (.int .i64 sec) := HC.out.1
  have x61 : w2.drew.cell? ⟨w.heap.size + 1 + 1, 61, none⟩ = some (.int .i64 ad) := HC.out.2
  have x62 : w2.drew.cell? ⟨w.heap.size + 1 + 1, 62, none⟩ = some (.int .i64 y) := c62
  have hs1 := sto_heap (sec := sec) (ad := ad) (show w.heap.size ≠ w.heap.size + 1 by omega) HQ1.out HQ2.out
  have hs2 := sto_below (sec := sec) (ad := ad) HQ3.out (Nat.le_refl w.heap.size) (Nat.le_succ w.heap.size)
  have HS : Hid (((stoD w.heap.size (w.heap.size + 1) sec ad w2).heap[w.heap.size]? = some (.cells im0.toArray 37 (0, 0)) ∧ (stoD w.heap.size (w.heap.size + 1) sec ad w2).heap[w.heap.size + 1]? = some (.cells (whA sec ad) 41 (0, 0))) ∧ Below w.heap.size w (stoD w.heap.size (w.heap.size + 1) sec ad w2)) := ⟨hs1, hs2⟩
  clear hs1 hs2
  go_cut [4] (fun y4 wx => y4 = .int .i64 y ∧ wx = stoD w.heap.size (w.heap.size + 1) sec ad w2)
  case first =>
   go_region
   all_goals
    go_wp2_with fail
    go_meet
    exact ⟨rfl, by kernel_rfl⟩
  case rest =>
   obtain ⟨rfl, hw9⟩ := hcut
   rw [← hw9] at HS
   clear hw9 HQ1 HQ2 HD HC HI x60 x61 x62 x60' x61' x62' c62
   go_wp2_with fail
   refine bodyPost_ret (dec_results rfl rfl rfl HS.out.1.1 rfl HS.out.1.2) rfl ?_
   refine ⟨?_, HS.out.2⟩
   first | exact rfl | exact .inr ⟨hy0, rfl⟩ | simp [hy0]
end Go.Proofs.YtnifefmfhjfbnaaGreatDoor
/- Bundle: heavy: few members, or it says so (written by parts/gen_bnhv.py). Own work. -/
namespace Go.Proofs.YtnifefmfhjfbnaaGreatDoor
open Go.RowKit Bn
set_option linter.unusedVariables false
set_option linter.unusedSimpArgs false
def rsz : List Gd → Nat
 | [] => 0
 | g :: gs => 1 + g.txt.size + rsz gs
def lsz : List (List (Int × Int)) → Nat
 | [] => 0
 | l :: ls => 1 + l.length + lsz ls
def plsz : List Sc → Nat
 | [] => 0
 | p :: ps => lsz p.lanes + plsz ps
theorem rsz_take : ∀ (xs : List Gd) (i : Nat) (h : i < xs.length), rsz (xs.take (i + 1)) = rsz (xs.take i) + (1 + xs[i].txt.size)
 | x :: xs, 0, h => by simp [rsz]
 | x :: xs, i + 1, h => by
  have := rsz_take xs i (by simpa using h)
  simp [rsz] at this ⊢
  omega
theorem lsz_take : ∀ (xs : List (List (Int × Int))) (i : Nat) (h : i < xs.length), lsz (xs.take (i + 1)) = lsz (xs.take i) + (1 + xs[i].length)
 | x :: xs, 0, h => by simp [lsz]
 | x :: xs, i + 1, h => by
  have := lsz_take xs i (by simpa using h)
  simp [lsz] at this ⊢
  omega
theorem plsz_take : ∀ (xs : List Sc) (i : Nat) (h : i < xs.length), plsz (xs.take (i + 1)) = plsz (xs.take i) + lsz xs[i].lanes
 | x :: xs, 0, h => by simp [plsz]
 | x :: xs, i + 1, h => by
  have := plsz_take xs i (by simpa using h)
  simp [plsz] at this ⊢
  omega
def memI (I : Im) : Nat := I.rams.length + I.devs.length + I.subs.length + I.ports.length + I.chs.length + I.irqs.length + I.plans.length + I.tabs.length
def cntI (I : Im) : Nat := memI I + rsz I.regs + plsz I.plans
theorem gsum_le : ∀ xs : List Gd, gsum xs ≤ 31 * rsz xs
 | [] => Nat.le_refl _
 | g :: gs => by have := gsum_le gs; rw [gsum, rsz]; omega
theorem lsum_le : ∀ xs : List (List (Int × Int)), lsum xs ≤ 8 * lsz xs
 | [] => Nat.le_refl _
 | g :: gs => by have := lsum_le gs; rw [lsum, lsz]; omega
theorem psum_le : ∀ xs : List Sc, psum xs ≤ 8 * xs.length + 8 * plsz xs
 | [] => Nat.le_refl _
 | g :: gs => by have := psum_le gs; have := lsum_le g.lanes; rw [psum, plsz, List.length_cons]; omega
theorem szI_le {I : Im} (h : cntI I < 4000000) : szI I ≤ 20000000000 := by
 have h1 := gsum_le I.regs
 have h2 := psum_le I.plans
 unfold cntI memI at h
 unfold szI
 omega
theorem rsz_mem : ∀ (xs : List Gd) (x : Gd), x ∈ xs → x.txt.size ≤ rsz xs
 | g :: gs, x, h => by
  rcases List.mem_cons.1 h with rfl | h
  ·rw [rsz]; omega
  ·have := rsz_mem gs x h; rw [rsz]; omega
/-- so many at most that no sum wraps -/
structure ImL (I : Im) : Prop where
 rams : I.rams.length ≤ 1125899906842624
 devs : I.devs.length ≤ 1125899906842624
 subs : I.subs.length ≤ 1125899906842624
 ports : I.ports.length ≤ 1125899906842624
 regs : I.regs.length ≤ 1125899906842624
 chs : I.chs.length ≤ 1125899906842624
 irqs : I.irqs.length ≤ 1125899906842624
 plans : I.plans.length ≤ 1125899906842624
 tabs : I.tabs.length ≤ 1125899906842624
 txt : ∀ x ∈ I.regs, x.txt.size ≤ 1125899906842624
 lanes : ∀ p ∈ I.plans, p.lanes.length ≤ 1125899906842624 ∧ ∀ l ∈ p.lanes, l.length ≤ 1125899906842624
def gdW (x : Gd) : Prop := x.ad ≤ 18446744073709551615 ∧ x.sz ≤ 18446744073709551615 ∧ x.fill ≤ 255
/-- an image that comes in, however long its texts are -/
structure ImW (w : World) (im : List Value) (I : Im) : Prop where
 base : im[0]? = some (.int .u64 (I.base : Int)) ∧ I.base ≤ 18446744073709551615
 rams : ∃ v, im[1]? = some v ∧ RowG 2 rgE w v I.rams ∧ ∀ x ∈ I.rams, rgOk x
 devs : ∃ v, im[2]? = some v ∧ RowG 2 rgE w v I.devs ∧ ∀ x ∈ I.devs, rgOk x
 subs : ∃ v, im[3]? = some v ∧ RowG 6 tnE w v I.subs ∧ ∀ x ∈ I.subs, tnOk x
 ports : ∃ v, im[4]? = some v ∧ RowG 1 poE w v I.ports ∧ ∀ x ∈ I.ports, I64R x
 regs : ∃ v, im[5]? = some v ∧ RowG 4 gdE w v I.regs ∧ ∀ x ∈ I.regs, gdW x
 chs : ∃ v, im[6]? = some v ∧ RowG 5 lkE w v I.chs ∧ ∀ x ∈ I.chs, lkOk x
 irqs : ∃ v, im[7]? = some v ∧ RowG 5 lkE w v I.irqs ∧ ∀ x ∈ I.irqs, lkOk x
 plans : ∃ v, im[8]? = some v ∧ PlG w v I.plans ∧ ∀ x ∈ I.plans, scOk x
 master : im[9]? = some (.int .i64 I.master) ∧ I64R I.master
 start : im[10]? = some (.int .i64 I.start) ∧ I64R I.start
 tabs : ∃ v, im[11]? = some v ∧ TbG w v I.tabs ∧ ∀ x ∈ I.tabs, tbOk x
 len : im.length = 12
 one : im.toArray.all (·.oneCell') = true
 short : ImL I
theorem ImW.below {w w' : World} {im : List Value} {I : Im} (h : ImW w im I) (hb : Below w.heap.size w w') : ImW w' im I := by
 obtain ⟨h1, ⟨v2, a2, b2, c2⟩, ⟨v3, a3, b3, c3⟩, ⟨v4, a4, b4, c4⟩, ⟨v5, a5, b5, c5⟩, ⟨v6, a6, b6, c6⟩, ⟨v7, a7, b7, c7⟩, ⟨v8, a8, b8, c8⟩, ⟨v9, a9, b9, c9⟩, h10, h11, ⟨v12, a12, b12, c12⟩, hl, ho, hs⟩ := h
 exact ⟨h1, ⟨v2, a2, b2.below hb, c2⟩, ⟨v3, a3, b3.below hb, c3⟩, ⟨v4, a4, b4.below hb, c4⟩, ⟨v5, a5, b5.below hb, c5⟩, ⟨v6, a6, b6.below hb, c6⟩, ⟨v7, a7, b7.below hb, c7⟩, ⟨v8, a8, b8.below hb, c8⟩, ⟨v9, a9, b9.below hb, c9⟩, h10, h11, ⟨v12, a12, b12.below hb, c12⟩, hl, ho, hs⟩
theorem ImW.a {w : World} {im : List Value} {I : Im} (h : ImW w im I) (hc : cntI I < 4000000) : ImA w im I := by
 obtain ⟨h1, h2, h3, h4, h5, ⟨v6, a6, b6, c6⟩, h7, h8, h9, h10, h11, h12, hl, ho, hs⟩ := h
 exact ⟨h1, h2, h3, h4, h5, ⟨v6, a6, b6, fun x hx => ⟨(c6 x hx).1, (c6 x hx).2.1, (c6 x hx).2.2, by have := rsz_mem I.regs x hx; unfold cntI at hc; omega⟩⟩, h7, h8, h9, h10, h11, h12, hl, ho⟩
/-- it says no: then there are few -/
def HV (I : Im) (w : World) (e : Ending) (w' : World) : Prop := ∃ r : Bool, e = .returned (.bool r) ∧ (r = false → cntI I < 4000000) ∧ Below w.heap.size w w'
theorem HV.yes {I : Im} {w w' : World} (hb : Below w.heap.size w w') : HV I w (.returned (.bool true)) w' := ⟨true, rfl, (fun h => by cases h), hb⟩
theorem HV.no {I : Im} {w w' : World} (h : cntI I < 4000000) (hb : Below w.heap.size w w') : HV I w (.returned (.bool false)) w' := ⟨false, rfl, (fun _ => h), hb⟩
set_option maxRecDepth 100000 in
set_option maxHeartbeats 8000000 in
theorem heavyX {w : World} {im : List Value} {I : Im} (h : ImW w im I) : Calls Tryz.prog 13 #[.agg im.toArray] w (HV I w) := by
 have HS := Lib.hid h.short
 obtain ⟨z0, z1, z2, z3, z4, z5, z6, z7, z8, z9, z10, z11, rfl⟩ := list12 h.len
 obtain ⟨v1, e1, R1, _⟩ := h.rams
 simp at e1
 subst e1
 obtain ⟨v2, e2, R2, _⟩ := h.devs
 simp at e2
 subst e2
 obtain ⟨v3, e3, R3, _⟩ := h.subs
 simp at e3
 subst e3
 obtain ⟨v4, e4, R4, _⟩ := h.ports
 simp at e4
 subst e4
 obtain ⟨v5, e5, R5, _⟩ := h.regs
 simp at e5
 subst e5
 have H5 := Lib.hid R5
 obtain ⟨v6, e6, R6, _⟩ := h.chs
 simp at e6
 subst e6
 obtain ⟨v7, e7, R7, _⟩ := h.irqs
 simp at e7
 subst e7
 obtain ⟨v8, e8, R8, _⟩ := h.plans
 simp at e8
 subst e8
 have H8 := Lib.hid R8
 obtain ⟨v11, e11, R11, _⟩ := h.tabs
 simp at e11
 subst e11
 clear h
 obtain ⟨a1, c1, rfl, l1, m1, _⟩ := R1
 unfold maxLen at m1
 obtain ⟨n1, q1⟩ : ∃ n, I.rams.length = n := ⟨_, rfl⟩
 have N1 := Lib.hid q1
 have b1 := HS.out.rams
 rw [q1] at b1
 rw [q1] at l1 ⊢
 clear q1 l1 m1
 obtain ⟨a2, c2, rfl, l2, m2, _⟩ := R2
 unfold maxLen at m2
 obtain ⟨n2, q2⟩ : ∃ n, I.devs.length = n := ⟨_, rfl⟩
 have N2 := Lib.hid q2
 have b2 := HS.out.devs
 rw [q2] at b2
 rw [q2] at l2 ⊢
 clear q2 l2 m2
 obtain ⟨a3, c3, rfl, l3, m3, _⟩ := R3
 unfold maxLen at m3
 obtain ⟨n3, q3⟩ : ∃ n, I.subs.length = n := ⟨_, rfl⟩
 have N3 := Lib.hid q3
 have b3 := HS.out.subs
 rw [q3] at b3
 rw [q3] at l3 ⊢
 clear q3 l3 m3
 obtain ⟨a4, c4, rfl, l4, m4, _⟩ := R4
 unfold maxLen at m4
 obtain ⟨n4, q4⟩ : ∃ n, I.ports.length = n := ⟨_, rfl⟩
 have N4 := Lib.hid q4
 have b4 := HS.out.ports
 rw [q4] at b4
 rw [q4] at l4 ⊢
 clear q4 l4 m4
 obtain ⟨a5, c5, rfl, l5, m5, _⟩ := R5
 unfold maxLen at m5
 obtain ⟨n5, q5⟩ : ∃ n, I.regs.length = n := ⟨_, rfl⟩
 have N5 := Lib.hid q5
 have b5 := HS.out.regs
 rw [q5] at b5
 rw [q5] at l5 H5 ⊢
 clear q5 l5 m5
 obtain ⟨a6, c6, rfl, l6, m6, _⟩ := R6
 unfold maxLen at m6
 obtain ⟨n6, q6⟩ : ∃ n, I.chs.length = n := ⟨_, rfl⟩
 have N6 := Lib.hid q6
 have b6 := HS.out.chs
 rw [q6] at b6
 rw [q6] at l6 ⊢
 clear q6 l6 m6
 obtain ⟨a7, c7, rfl, l7, m7, _⟩ := R7
 unfold maxLen at m7
 obtain ⟨n7, q7⟩ : ∃ n, I.irqs.length = n := ⟨_, rfl⟩
 have N7 := Lib.hid q7
 have b7 := HS.out.irqs
 rw [q7] at b7
 rw [q7] at l7 ⊢
 clear q7 l7 m7
 obtain ⟨a8, c8, rfl, l8, m8, _⟩ := R8
 unfold maxLen at m8
 obtain ⟨n8, q8⟩ : ∃ n, I.plans.length = n := ⟨_, rfl⟩
 have N8 := Lib.hid q8
 have b8 := HS.out.plans
 rw [q8] at b8
 rw [q8] at l8 H8 ⊢
 clear q8 l8 m8
 obtain ⟨a11, c11, rfl, l11, m11, _⟩ := R11
 unfold maxLen at m11
 obtain ⟨n11, q11⟩ : ∃ n, I.tabs.length = n := ⟨_, rfl⟩
 have N11 := Lib.hid q11
 have b11 := HS.out.tabs
 rw [q11] at b11
 rw [q11] at l11 ⊢
 clear q11 l11 m11
 have w1 : IntKind.i64.wrap ((n1 : Int) + (n2 : Int)) = (n1 : Int) + (n2 : Int) := by rw [IntKind.wrap_i64]; omega
 have w2 : IntKind.i64.wrap ((n1 : Int) + (n2 : Int) + (n3 : Int)) = (n1 : Int) + (n2 : Int) + (n3 : Int) := by rw [IntKind.wrap_i64]; omega
 have w3 : IntKind.i64.wrap ((n1 : Int) + (n2 : Int) + (n3 : Int) + (n4 : Int)) = (n1 : Int) + (n2 : Int) + (n3 : Int) + (n4 : Int) := by rw [IntKind.wrap_i64]; omega
 have w4 : IntKind.i64.wrap ((n1 : Int) + (n2 : Int) + (n3 : Int) + (n4 : Int) + (n6 : Int)) = (n1 : Int) + (n2 : Int) + (n3 : Int) + (n4 : Int) + (n6 : Int) := by rw [IntKind.wrap_i64]; omega
 have w5 : IntKind.i64.wrap ((n1 : Int) + (n2 : Int) + (n3 : Int) + (n4 : Int) + (n6 : Int) + (n7 : Int)) = (n1 : Int) + (n2 : Int) + (n3 : Int) + (n4 : Int) + (n6 : Int) + (n7 : Int) := by rw [IntKind.wrap_i64]; omega
 have w6 : IntKind.i64.wrap ((n1 : Int) + (n2 : Int) + (n3 : Int) + (n4 : Int) + (n6 : Int) + (n7 : Int) + (n8 : Int)) = (n1 : Int) + (n2 : Int) + (n3 : Int) + (n4 : Int) + (n6 : Int) + (n7 : Int) + (n8 : Int) := by rw [IntKind.wrap_i64]; omega
 have w7 : IntKind.i64.wrap ((n1 : Int) + (n2 : Int) + (n3 : Int) + (n4 : Int) + (n6 : Int) + (n7 : Int) + (n8 : Int) + (n11 : Int)) = (n1 : Int) + (n2 : Int) + (n3 : Int) + (n4 : Int) + (n6 : Int) + (n7 : Int) + (n8 : Int) + (n11 : Int) := by rw [IntKind.wrap_i64]; omega
 obtain ⟨m, hm⟩ : ∃ m, memI I = m := ⟨_, rfl⟩
 have hm' : m = n1 + n2 + n3 + n4 + n6 + n7 + n8 + n11 := by rw [← hm, memI, N1.out, N2.out, N3.out, N4.out, N6.out, N7.out, N8.out, N11.out]
 have HM := Lib.hid hm
 have hmi : (n1 : Int) + (n2 : Int) + (n3 : Int) + (n4 : Int) + (n6 : Int) + (n7 : Int) + (n8 : Int) + (n11 : Int) = (m : Int) := by omega
 have hmb : m ≤ 9007199254740992 := by omega
 have HCn : Hid (cntI I = m + rsz I.regs + plsz I.plans) := show _ = _ by rw [cntI, hm]
 clear hm hm'
 have HB9 : Hid (Below w.heap.size w (w.alloc (.cells #[z0, .slice a1 n1 c1, .slice a2 n2 c2, .slice a3 n3 c3, .slice a4 n4 c4, .slice a5 n5 c5, .slice a6 n6 c6, .slice a7 n7 c7, .slice a8 n8 c8, z9, z10, .slice a11 n11 c11] 37))) := (Below.refl _ _).alloc (Nat.le_refl _) _
 have d1 : (w.alloc (.cells #[z0, .slice a1 n1 c1, .slice a2 n2 c2, .slice a3 n3 c3, .slice a4 n4 c4, .slice a5 n5 c5, .slice a6 n6 c6, .slice a7 n7 c7, .slice a8 n8 c8, z9, z10, .slice a11 n11 c11] 37)).cell? ⟨w.heap.size, 1, none⟩ = some (.slice a1 n1 c1) := by simp [go_sem]
 have d2 : (w.alloc (.cells #[z0, .slice a1 n1 c1, .slice a2 n2 c2, .slice a3 n3 c3, .slice a4 n4 c4, .slice a5 n5 c5, .slice a6 n6 c6, .slice a7 n7 c7, .slice a8 n8 c8, z9, z10, .slice a11 n11 c11] 37)).cell? ⟨w.heap.size, 2, none⟩ = some (.slice a2 n2 c2) := by simp [go_sem]
 have d3 : (w.alloc (.cells #[z0, .slice a1 n1 c1, .slice a2 n2 c2, .slice a3 n3 c3, .slice a4 n4 c4, .slice a5 n5 c5, .slice a6 n6 c6, .slice a7 n7 c7, .slice a8 n8 c8, z9, z10, .slice a11 n11 c11] 37)).cell? ⟨w.heap.size, 3, none⟩ = some (.slice a3 n3 c3) := by simp [go_sem]
 have d4 : (w.alloc (.cells #[z0, .slice a1 n1 c1, .slice a2 n2 c2, .slice a3 n3 c3, .slice a4 n4 c4, .slice a5 n5 c5, .slice a6 n6 c6, .slice a7 n7 c7, .slice a8 n8 c8, z9, z10, .slice a11 n11 c11] 37)).cell? ⟨w.heap.size, 4, none⟩ = some (.slice a4 n4 c4) := by simp [go_sem]
 have d5 : (w.alloc (.cells #[z0, .slice a1 n1 c1, .slice a2 n2 c2, .slice a3 n3 c3, .slice a4 n4 c4, .slice a5 n5 c5, .slice a6 n6 c6, .slice a7 n7 c7, .slice a8 n8 c8, z9, z10, .slice a11 n11 c11] 37)).cell? ⟨w.heap.size, 5, none⟩ = some (.slice a5 n5 c5) := by simp [go_sem]
 have d6 : (w.alloc (.cells #[z0, .slice a1 n1 c1, .slice a2 n2 c2, .slice a3 n3 c3, .slice a4 n4 c4, .slice a5 n5 c5, .slice a6 n6 c6, .slice a7 n7 c7, .slice a8 n8 c8, z9, z10, .slice a11 n11 c11] 37)).cell? ⟨w.heap.size, 6, none⟩ = some (.slice a6 n6 c6) := by simp [go_sem]
 have d7 : (w.alloc (.cells #[z0, .slice a1 n1 c1, .slice a2 n2 c2, .slice a3 n3 c3, .slice a4 n4 c4, .slice a5 n5 c5, .slice a6 n6 c6, .slice a7 n7 c7, .slice a8 n8 c8, z9, z10, .slice a11 n11 c11] 37)).cell? ⟨w.heap.size, 7, none⟩ = some (.slice a7 n7 c7) := by simp [go_sem]
 have d8 : (w.alloc (.cells #[z0, .slice a1 n1 c1, .slice a2 n2 c2, .slice a3 n3 c3, .slice a4 n4 c4, .slice a5 n5 c5, .slice a6 n6 c6, .slice a7 n7 c7, .slice a8 n8 c8, z9, z10, .slice a11 n11 c11] 37)).cell? ⟨w.heap.size, 8, none⟩ = some (.slice a8 n8 c8) := by simp [go_sem]
 have d11 : (w.alloc (.cells #[z0, .slice a1 n1 c1, .slice a2 n2 c2, .slice a3 n3 c3, .slice a4 n4 c4, .slice a5 n5 c5, .slice a6 n6 c6, .slice a7 n7 c7, .slice a8 n8 c8, z9, z10, .slice a11 n11 c11] 37)).cell? ⟨w.heap.size, 11, none⟩ = some (.slice a11 n11 c11) := by simp [go_sem]
 have H5W := Lib.hid (H5.out.below HB9.out)
 have H8W := Lib.hid (H8.out.below HB9.out)
 clear H5 H8
 go_enter Tryz.func13, Tryz.ntmps13
 go_upto_region 1 with fail
 generalize (w.alloc (.cells #[z0, .slice a1 n1 c1, .slice a2 n2 c2, .slice a3 n3 c3, .slice a4 n4 c4, .slice a5 n5 c5, .slice a6 n6 c6, .slice a7 n7 c7, .slice a8 n8 c8, z9, z10, .slice a11 n11 c11] 37)) = W at *
 go_wp2_with fail
 clear w1 w2 w3 w4 w5 w6 w7
 clear d1 d2 d3 d4 d6 d7 d11
 go_loopw [3, 4] (fun nv jv wr => ∃ j N : Nat, j ≤ n5 ∧ nv = .int .i64 (N : Int) ∧ jv = .int .i64 (j : Int) ∧ Hid (N = m + rsz (I.regs.take j)) ∧ N ≤ 36028797018963968 ∧ wr = W) (fun _ jv _ => n5 - (intOf jv).toNat)
 case atStart => exact ⟨0, m, by omega, by first | rfl | rw [hmi], rfl, Lib.hid (by simp [rsz]), by omega, rfl⟩
 obtain ⟨j, N, hj, rfl, rfl, HN, hNb, hwr⟩ := hrel
 have hwr := hwr.symm
 subst hwr
 by_cases hj5 : j < n5
 case neg =>
  have jj : ¬ (j : Int) < (n5 : Int) := by omega
  have HX : Hid (N < 4000000 → N = m + rsz I.regs) := fun _ => by
   rw [HN.out, List.take_of_length_le (by rw [N5.out]; omega)]
  clear HN
  go_wp2_with fail
  clear jj
  go_loopw [3, 5] (fun nv jv wr => ∃ p M : Nat, p ≤ n8 ∧ nv = .int .i64 (M : Int) ∧ jv = .int .i64 (p : Int) ∧ Hid (M < 4000000 → M = m + rsz I.regs + plsz (I.plans.take p)) ∧ M ≤ 36028797018963968 ∧ wr = W) (fun _ jv _ => n8 - (intOf jv).toNat)
  case atStart => exact ⟨0, N, by omega, rfl, rfl, (fun h => by have := HX.out h; simp [plsz]; omega), by omega, rfl⟩
  clear HX
  obtain ⟨p, M, hp, rfl, rfl, HP, hMb, hwr⟩ := hrel
  have hwr := hwr.symm
  subst hwr
  by_cases hp8 : p < n8
  case neg =>
   have jp : ¬ (p : Int) < (n8 : Int) := by omega
   by_cases hM4 : M < 4000000
   ·have jM : (M : Int) < 4000000 := by omega
    have jM' : ¬ (4000000 : Int) ≤ (M : Int) := by omega
    by_cases hR : 4000000 ≤ n5
    ·have jR : (4000000 : Int) ≤ (n5 : Int) := by omega
     go_wp2_with fail
     go_ret
     exact HV.yes HB9.out
    ·have jR : ¬ (4000000 : Int) ≤ (n5 : Int) := by omega
     have HZ : Hid (cntI I < 4000000) := show _ < _ by rw [HCn.out]; have := HP.out hM4; rw [List.take_of_length_le (by rw [N8.out]; omega)] at this; omega
     go_wp2_with fail
     go_ret
     exact HV.no HZ.out HB9.out
   ·have jM : ¬ (M : Int) < 4000000 := by omega
    have jM' : (4000000 : Int) ≤ (M : Int) := by omega
    go_wp2_with fail
    go_ret
    exact HV.yes HB9.out
  have jp : (p : Int) < (n8 : Int) := by omega
  by_cases hM4 : M < 4000000
  case neg =>
   have jM : ¬ (M : Int) < 4000000 := by omega
   have jM' : (4000000 : Int) ≤ (M : Int) := by omega
   go_wp2_with fail
   go_ret
   exact HV.yes HB9.out
  have jM : (M : Int) < 4000000 := by omega
  have hpx : p < I.plans.length := by rw [N8.out]; exact hp8
  obtain ⟨_, _, e', _, _, hc⟩ := H8W.out
  simp only [Value.slice.injEq] at e'
  obtain ⟨rfl, e9, rfl⟩ := e'
  clear e9
  obtain ⟨b, of, u, rfl, _, cu, hL⟩ := hc p hpx
  have HT := Lib.hid (plsz_take I.plans p hpx)
  have HLs := Lib.hid (HS.out.lanes I.plans[p] (List.getElem_mem hpx))
  clear hc
  generalize I.plans[p] = X at *
  have HL := Lib.hid hL
  obtain ⟨la, lc, rfl, _, _, _⟩ := hL
  obtain ⟨L, hLn⟩ : ∃ n, X.lanes.length = n := ⟨_, rfl⟩
  have HLn := Lib.hid hLn
  have hLb := HLs.out.1
  rw [hLn] at cu hLb HL
  clear hLn
  have hw3 : IntKind.i64.wrap ((p : Int) + 1) = ((p + 1 : Nat) : Int) := by rw [IntKind.wrap_i64]; omega
  go_wp2_with fail
  go_loopw [3, 6] (fun nv kv wr => ∃ k K : Nat, k ≤ L ∧ nv = .int .i64 (K : Int) ∧ kv = .int .i64 (k : Int) ∧ Hid (K < 4000000 → K = m + rsz I.regs + plsz (I.plans.take p) + lsz (X.lanes.take k)) ∧ K ≤ 36028797018963968 ∧ wr = W) (fun _ kv _ => L - (intOf kv).toNat)
  case atStart => exact ⟨0, M, by omega, rfl, rfl, (fun h => by have := HP.out h; simp [lsz]; omega), by omega, rfl⟩
  clear HP jM
  obtain ⟨k, K, hk, rfl, rfl, HK, hKb, hwr⟩ := hrel
  have hwr := hwr.symm
  subst hwr
  by_cases hkL : k < L
  case neg =>
   have jk : ¬ (k : Int) < (L : Int) := by omega
   have HY : Hid (K < 4000000 → K = m + rsz I.regs + plsz (I.plans.take (p + 1))) := fun h => by
    have := HK.out h
    rw [show X.lanes.take k = X.lanes from List.take_of_length_le (by rw [HLn.out]; omega)] at this
    rw [HT.out]
    omega
   clear HK
   go_wp2_with fail
   go_roundw
   case rel => exact ⟨p + 1, K, by omega, rfl, by rfl, HY, by omega, by first | rfl | trivial⟩
   case measure => simp [intOf]; omega
  have jk : (k : Int) < (L : Int) := by omega
  by_cases hK4 : K < 4000000
  case neg =>
   have jK : ¬ (K : Int) < 4000000 := by omega
   have HY : Hid (K < 4000000 → K = m + rsz I.regs + plsz (I.plans.take (p + 1))) := fun h => absurd h hK4
   clear HK
   go_wp2_with fail
   go_roundw
   case rel => exact ⟨p + 1, K, by omega, rfl, by rfl, HY, by omega, by first | rfl | trivial⟩
   case measure => simp [intOf]; omega
  have jK : (K : Int) < 4000000 := by omega
  have hkx : k < X.lanes.length := by rw [HLn.out]; exact hkL
  obtain ⟨_, _, e', _, _, hc⟩ := HL.out
  simp only [Value.slice.injEq] at e'
  obtain ⟨rfl, e9, rfl⟩ := e'
  clear e9
  obtain ⟨lb, lo, u, rfl, cl, hR⟩ := hc k hkx
  have HTl := Lib.hid (lsz_take X.lanes k hkx)
  have hlb := HLs.out.2 X.lanes[k] (List.getElem_mem hkx)
  clear hc
  generalize X.lanes[k] = l at *
  obtain ⟨ra, rc, rfl, _, _, _⟩ := hR
  obtain ⟨t, hlt⟩ : ∃ t, l.length = t := ⟨_, rfl⟩
  rw [hlt] at hlb HTl cl
  clear hlt
  have hx1 : IntKind.i64.wrap ((K : Int) + 1) = (K : Int) + 1 := by rw [IntKind.wrap_i64]; omega
  have hx2 : IntKind.i64.wrap ((K : Int) + 1 + (t : Int)) = ((K + 1 + t : Nat) : Int) := by rw [IntKind.wrap_i64]; omega
  have hx3 : IntKind.i64.wrap ((k : Int) + 1) = ((k + 1 : Nat) : Int) := by rw [IntKind.wrap_i64]; omega
  go_wp2_with fail
  go_roundw
  case rel => exact ⟨k + 1, K + 1 + t, by omega, by rfl, by rfl, (fun h => by have := HK.out hK4; rw [HTl.out]; omega), by omega, by first | rfl | trivial⟩
  case measure => simp [intOf]; omega
 have jj : (j : Int) < (n5 : Int) := by omega
 by_cases hN4 : N < 4000000
 case neg =>
  have jN : ¬ (N : Int) < 4000000 := by omega
  have HX : Hid (N < 4000000 → N = m + rsz I.regs) := fun h => absurd h hN4
  clear HN
  go_wp2_with fail
  clear jj jN
  go_loopw [3, 5] (fun nv jv wr => ∃ p M : Nat, p ≤ n8 ∧ nv = .int .i64 (M : Int) ∧ jv = .int .i64 (p : Int) ∧ Hid (M < 4000000 → M = m + rsz I.regs + plsz (I.plans.take p)) ∧ M ≤ 36028797018963968 ∧ wr = W) (fun _ jv _ => n8 - (intOf jv).toNat)
  case atStart => exact ⟨0, N, by omega, rfl, rfl, (fun h => by have := HX.out h; simp [plsz]; omega), by omega, rfl⟩
  clear HX
  obtain ⟨p, M, hp, rfl, rfl, HP, hMb, hwr⟩ := hrel
  have hwr := hwr.symm
  subst hwr
  by_cases hp8 : p < n8
  case neg =>
   have jp : ¬ (p : Int) < (n8 : Int) := by omega
   by_cases hM4 : M < 4000000
   ·have jM : (M : Int) < 4000000 := by omega
    have jM' : ¬ (4000000 : Int) ≤ (M : Int) := by omega
    by_cases hR : 4000000 ≤ n5
    ·have jR : (4000000 : Int) ≤ (n5 : Int) := by omega
     go_wp2_with fail
     go_ret
     exact HV.yes HB9.out
    ·have jR : ¬ (4000000 : Int) ≤ (n5 : Int) := by omega
     have HZ : Hid (cntI I < 4000000) := show _ < _ by rw [HCn.out]; have := HP.out hM4; rw [List.take_of_length_le (by rw [N8.out]; omega)] at this; omega
     go_wp2_with fail
     go_ret
     exact HV.no HZ.out HB9.out
   ·have jM : ¬ (M : Int) < 4000000 := by omega
    have jM' : (4000000 : Int) ≤ (M : Int) := by omega
    go_wp2_with fail
    go_ret
    exact HV.yes HB9.out
  have jp : (p : Int) < (n8 : Int) := by omega
  by_cases hM4 : M < 4000000
  case neg =>
   have jM : ¬ (M : Int) < 4000000 := by omega
   have jM' : (4000000 : Int) ≤ (M : Int) := by omega
   go_wp2_with fail
   go_ret
   exact HV.yes HB9.out
  have jM : (M : Int) < 4000000 := by omega
  have hpx : p < I.plans.length := by rw [N8.out]; exact hp8
  obtain ⟨_, _, e', _, _, hc⟩ := H8W.out
  simp only [Value.slice.injEq] at e'
  obtain ⟨rfl, e9, rfl⟩ := e'
  clear e9
  obtain ⟨b, of, u, rfl, _, cu, hL⟩ := hc p hpx
  have HT := Lib.hid (plsz_take I.plans p hpx)
  have HLs := Lib.hid (HS.out.lanes I.plans[p] (List.getElem_mem hpx))
  clear hc
  generalize I.plans[p] = X at *
  have HL := Lib.hid hL
  obtain ⟨la, lc, rfl, _, _, _⟩ := hL
  obtain ⟨L, hLn⟩ : ∃ n, X.lanes.length = n := ⟨_, rfl⟩
  have HLn := Lib.hid hLn
  have hLb := HLs.out.1
  rw [hLn] at cu hLb HL
  clear hLn
  have hw3 : IntKind.i64.wrap ((p : Int) + 1) = ((p + 1 : Nat) : Int) := by rw [IntKind.wrap_i64]; omega
  go_wp2_with fail
  go_loopw [3, 6] (fun nv kv wr => ∃ k K : Nat, k ≤ L ∧ nv = .int .i64 (K : Int) ∧ kv = .int .i64 (k : Int) ∧ Hid (K < 4000000 → K = m + rsz I.regs + plsz (I.plans.take p) + lsz (X.lanes.take k)) ∧ K ≤ 36028797018963968 ∧ wr = W) (fun _ kv _ => L - (intOf kv).toNat)
  case atStart => exact ⟨0, M, by omega, rfl, rfl, (fun h => by have := HP.out h; simp [lsz]; omega), by omega, rfl⟩
  clear HP jM
  obtain ⟨k, K, hk, rfl, rfl, HK, hKb, hwr⟩ := hrel
  have hwr := hwr.symm
  subst hwr
  by_cases hkL : k < L
  case neg =>
   have jk : ¬ (k : Int) < (L : Int) := by omega
   have HY : Hid (K < 4000000 → K = m + rsz I.regs + plsz (I.plans.take (p + 1))) := fun h => by
    have := HK.out h
    rw [show X.lanes.take k = X.lanes from List.take_of_length_le (by rw [HLn.out]; omega)] at this
    rw [HT.out]
    omega
   clear HK
   go_wp2_with fail
   go_roundw
   case rel => exact ⟨p + 1, K, by omega, rfl, by rfl, HY, by omega, by first | rfl | trivial⟩
   case measure => simp [intOf]; omega
  have jk : (k : Int) < (L : Int) := by omega
  by_cases hK4 : K < 4000000
  case neg =>
   have jK : ¬ (K : Int) < 4000000 := by omega
   have HY : Hid (K < 4000000 → K = m + rsz I.regs + plsz (I.plans.take (p + 1))) := fun h => absurd h hK4
   clear HK
   go_wp2_with fail
   go_roundw
   case rel => exact ⟨p + 1, K, by omega, rfl, by rfl, HY, by omega, by first | rfl | trivial⟩
   case measure => simp [intOf]; omega
  have jK : (K : Int) < 4000000 := by omega
  have hkx : k < X.lanes.length := by rw [HLn.out]; exact hkL
  obtain ⟨_, _, e', _, _, hc⟩ := HL.out
  simp only [Value.slice.injEq] at e'
  obtain ⟨rfl, e9, rfl⟩ := e'
  clear e9
  obtain ⟨lb, lo, u, rfl, cl, hR⟩ := hc k hkx
  have HTl := Lib.hid (lsz_take X.lanes k hkx)
  have hlb := HLs.out.2 X.lanes[k] (List.getElem_mem hkx)
  clear hc
  generalize X.lanes[k] = l at *
  obtain ⟨ra, rc, rfl, _, _, _⟩ := hR
  obtain ⟨t, hlt⟩ : ∃ t, l.length = t := ⟨_, rfl⟩
  rw [hlt] at hlb HTl cl
  clear hlt
  have hx1 : IntKind.i64.wrap ((K : Int) + 1) = (K : Int) + 1 := by rw [IntKind.wrap_i64]; omega
  have hx2 : IntKind.i64.wrap ((K : Int) + 1 + (t : Int)) = ((K + 1 + t : Nat) : Int) := by rw [IntKind.wrap_i64]; omega
  have hx3 : IntKind.i64.wrap ((k : Int) + 1) = ((k + 1 : Nat) : Int) := by rw [IntKind.wrap_i64]; omega
  go_wp2_with fail
  go_roundw
  case rel => exact ⟨k + 1, K + 1 + t, by omega, by rfl, by rfl, (fun h => by have := HK.out hK4; rw [HTl.out]; omega), by omega, by first | rfl | trivial⟩
  case measure => simp [intOf]; omega
 have jN : (N : Int) < 4000000 := by omega
 have hix : j < I.regs.length := by rw [N5.out]; exact hj5
 obtain ⟨_, _, e', _, _, hc⟩ := H5W.out
 simp only [Value.slice.injEq] at e'
 obtain ⟨rfl, e9, rfl⟩ := e'
 clear e9
 obtain ⟨b, of, rfl, _, hc⟩ := hc j hix
 have hc3 := hc 3 (by decide)
 clear hc
 have HT := Lib.hid (rsz_take I.regs j hix)
 have ht := HS.out.txt I.regs[j] (List.getElem_mem hix)
 generalize I.regs[j] = g at *
 have c3 : W.cell? ⟨b, of + j * 4 + 3, none⟩ = some (.string g.txt) := hc3
 clear hc3
 obtain ⟨t, hgt⟩ : ∃ t, g.txt.size = t := ⟨_, rfl⟩
 rw [hgt] at ht HT
 have hw1 : IntKind.i64.wrap ((N : Int) + 1) = (N : Int) + 1 := by rw [IntKind.wrap_i64]; omega
 have hw2 : IntKind.i64.wrap ((N : Int) + 1 + (t : Int)) = ((N + 1 + t : Nat) : Int) := by rw [IntKind.wrap_i64]; omega
 have hw3 : IntKind.i64.wrap ((j : Int) + 1) = ((j + 1 : Nat) : Int) := by rw [IntKind.wrap_i64]; omega
 go_wp2_with fail
 go_roundw
 case rel => exact ⟨j + 1, N + 1 + t, by omega, by rfl, by rfl, by rw [HT.out, HN.out]; exact Lib.hid (by omega), by omega, by first | rfl | trivial⟩
 case measure => simp [intOf]; omega
end Go.Proofs.YtnifefmfhjfbnaaGreatDoor
