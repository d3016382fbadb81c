import Derived.Test.YtmfkggngjeolcaaGreatDoorPk16
set_option linter.unusedSimpArgs false
set_option linter.unusedVariables false
set_option maxHeartbeats 16000000
set_option maxRecDepth 100000
namespace Go.Proofs.YtmfkggngjeolcaaGreatDoor
open Go.RowKit Bn
theorem push_modify (a : Array Obj) (x : Obj) (f : Obj → Obj) : (a.push x).modify a.size f = a.push (f x) := by
 apply Array.ext
 ·simp
 ·intro i h1 h2;simp only [Array.getElem_modify, Array.getElem_push]
  by_cases h : a.size = i
  ·subst h;simp
  ·have hi : i < a.size := by simp at h1; omega
   simp [h, hi]
theorem convert_lit (w : World) (L : List Nat) (cs : Array Value) (hcs : cs.size = L.length) : (convert 43 43 (.slice (some ⟨w.heap.size, 0, none⟩) L.length L.length)).run Tryz.prog (w.alloc (.cells cs 5)) = .ok (.slice (some ⟨w.heap.size, 0, none⟩) L.length L.length) (w.alloc (.cells cs 5 (L.length, L.length + 1))) := by
 have hh : (w.alloc (.cells cs 5)).heap[w.heap.size]? = some (.cells cs 5) := heap_alloc_new w _;have hs : (w.alloc (.cells cs 5)).shape? w.heap.size = some (5, L.length) := by
  unfold World.shape?;rw [hh];simp [hcs]
 have hf : (w.alloc (.cells cs 5)).freeze ⟨w.heap.size, L.length, none⟩ 1 = w.alloc (.cells cs 5 (L.length, L.length + 1)) := by
  unfold World.freeze;rw [if_neg (by decide)]
  show ({ w.alloc (.cells cs 5) with heap := (w.heap.push (.cells cs 5)).modify w.heap.size _ } : World) = _
  rw [push_modify]
  rfl
 simp [convert, run_underlying Tryz.underlying43, run_underlying Tryz.underlying5, markStringish, hs]
 exact hf
theorem sl_lit (w : World) (L : List Nat) (fr : Nat × Nat) (hL : ∀ z ∈ L, z < 256) (hl : L.length ≤ 1000) : Sl (w.alloc (.cells (bvs L).toArray 5 fr)) (.slice (some ⟨w.heap.size, 0, none⟩) L.length L.length) L := by
 have hr : (w.alloc (.cells (bvs L).toArray 5 fr)).heap[w.heap.size]? = some (.cells (bvs L).toArray 5 fr) := heap_alloc_new w _;refine ⟨some ⟨w.heap.size, 0, none⟩, L.length, rfl, Nat.le_refl _, by unfold maxLen; omega, hL, by simp, fun i hi => ⟨_, _, rfl, ?_⟩⟩;rw [Nat.zero_add, cell_of_row _ _ i _ _ _ hr]
 simpa using bvs_get L i hi
def magB : List Nat := [66, 85, 76, 75, 72, 69, 65, 68]
def secZ (I : Im) (zs : List Nat) (k : Nat) : List Nat := (zs.drop (fstN I k)).take (lenN I k)
def hdP (I : Im) (zs : List Nat) : Nat → List Nat
 | 0 => magB ++ Pl.le 2 1 ++ Pl.le 2 8 ++ Pl.le 4 (zs.length / 4096) ++ Pl.le 8 I.base
 | i + 1 => hdP I zs i ++ entB (i + 1) (fstN I (i + 1)) (lenN I (i + 1)) (Pl.crc (secZ I zs (i + 1)))
def hdF (I : Im) (zs : List Nat) : List Nat := hdP I zs 8 ++ Pl.le 4 (Pl.crc (hdP I zs 8)) ++ Pl.le 4 0
def encF (I : Im) : List Nat := hdF I (stN I 9).1 ++ (stN I 9).1.drop 160
theorem hdP_len (I : Im) (zs : List Nat) : ∀ i, (hdP I zs i).length = 24 + 16 * i
 | 0 => by simp [hdP, magB, Pl.le_length]
 | i + 1 => by rw [hdP, List.length_append, entB_len, hdP_len I zs i]; omega
theorem hdF_len (I : Im) (zs : List Nat) : (hdF I zs).length = 160 := by simp [hdF, hdP_len, Pl.le_length]
theorem stN_mono (I : Im) : ∀ j k, j ≤ k → (stN I j).1.length ≤ (stN I k).1.length := by
 intro j k h
 induction k with
 | zero => simp at h; subst h; exact Nat.le_refl _
 | succ k ih =>
  by_cases e : j = k + 1
  ·subst e; exact Nat.le_refl _
  ·refine Nat.le_trans (ih (by omega)) ?_;have h1 := sec_ge I k (zerosS (begN k (stN I k).1.length - (stN I k).1.length) (stN I k));rw [zeros_len] at h1;rw [stN];omega
theorem fst_len (I : Im) (k : Nat) (h : k < 9) : fstN I k + lenN I k = (stN I (k + 1)).1.length ∧ (stN I (k + 1)).1.length ≤ (stN I 9).1.length := by
 refine ⟨?_, stN_mono I _ _ (by omega)⟩;have := fst_le I k h;unfold lenN;omega
theorem st9_ge (I : Im) : 160 ≤ (stN I 9).1.length := by
 have h := stN_mono I 1 9 (by omega);have h1 : 160 ≤ (stN I 1).1.length := by
  show 160 ≤ (roomS I _).1.length
  rw [roomS, zeros_len];omega
 omega
theorem five_get (F : Nat → List Value) (hF : ∀ k, (F k).length = 5) : ∀ (n k j : Nat), k < n → j < 5 → ((List.range n).flatMap F)[5 * k + j]? = (F k)[j]?
 | 0, k, j, hk, _ => by omega
 | n + 1, k, j, hk, hj => by
  have hl : ∀ m, ((List.range m).flatMap F).length = 5 * m := fun m => by
   induction m with
   | zero => rfl
   | succ m ih => rw [List.range_succ, List.flatMap_append, List.length_append, ih, List.flatMap_singleton, hF]; omega
  rw [List.range_succ, List.flatMap_append, List.flatMap_singleton]
  by_cases e : k < n
  ·rw [List.getElem?_append_left (by rw [hl]; omega)];exact five_get F hF n k j e hj
  ·obtain rfl : k = n := by omega
   rw [List.getElem?_append_right (by rw [hl]; omega), hl]
   congr 1
   omega
theorem en_get (I : Im) {k j : Nat} (hk : k < 9) (hj : j < 5) : (enN I 9)[5 * k + j]? = (entC k (fstN I k) (lenN I k))[j]? := by
 unfold enN;rw [five_get _ (fun k => by split <;> rfl) 9 k j hk hj, if_pos hk]
end Go.Proofs.YtmfkggngjeolcaaGreatDoor
namespace Go.Proofs.YtmfkggngjeolcaaGreatDoor
open Go.RowKit Bn
theorem wr_low {w w' : World} {p : Nat} {v : Value} {zs : List Nat} {why : Int} {base : Nat} (h : Wr w p v zs why base) (hb : Below w.heap.size w w') : Wr w' p v zs why base := ⟨(hb.block p h.lt).trans h.1, h.2.1.below hb, h.2.2⟩
theorem row_wk {base p : Nat} {w w' : World} {g : Nat} {L : List Nat} (h : Row w g L) (k : Wk base p w w') (h1 : g < base) (h2 : g ≠ p) : Row w' g L := (Keeps.block k g h.lt (by
 rintro (e | e)
 ·exact h2 e
 ·omega)).trans h
theorem sl_of_row {w : World} {g f l c ad : Nat} {zs : List Nat} (h : Row w g zs) (hz : ∀ z ∈ zs, z < 256) (hfl : f + l ≤ zs.length) (hc : l ≤ c) (hm : c ≤ maxLen) (ha : ad = f ∨ l = 0) : Sl w (.slice (some ⟨g, ad, none⟩) l c) ((zs.drop f).take l) := by
 have hlen : ((zs.drop f).take l).length = l := by rw [List.length_take, List.length_drop]; omega
 refine ⟨some ⟨g, ad, none⟩, c, by rw [hlen], by rw [hlen]; exact hc, hm, fun z hz' => hz z (List.mem_of_mem_drop (List.mem_of_mem_take hz')), (fun e => by cases e), fun i hi => ?_⟩;rw [hlen] at hi;rcases ha with rfl | h0
 ·refine ⟨g, ad, rfl, ?_⟩;rw [h.cell (ad + i) (by omega)];have e : (zs.drop ad |>.take l).getD i 0 = zs.getD (ad + i) 0 := by
   simp [List.getD, List.getElem?_take_of_lt hi, List.getElem?_drop]
  rw [e]
 ·omega
section
variable {B kb p : Nat} {im : List Value} {w0 : World} {w : World} {I : Im}
theorem headedX (h : Sx B kb im (some p) (enN I 9) w0 (stN I 9) w) (hb : im[0]? = some (.int .u64 (I.base : Int))) (hb9 : I.base ≤ 18446744073709551615) (ht : Tab w) (hN : (stN I 9).1.length ≤ 4198399) : Calls Tryz.prog 25 #[.pointer (some ⟨kb, 0, none⟩)] w fun e w' => e = .returned (.slice (some ⟨w.heap.size, 0, none⟩) (encF I).length (encF I).length) ∧ Row w' w.heap.size (encF I) ∧ Below w.heap.size w w' := by
 obtain ⟨zs, hzs⟩ : ∃ zs, (stN I 9).1 = zs := ⟨_, rfl⟩
 obtain ⟨N, hNz⟩ : ∃ N, zs.length = N := ⟨_, rfl⟩
 have hlow : ∀ j W, Below w.heap.size w W → W.cell? ⟨kb, j, none⟩ = (lyC im (some p) (stN I 9).1.length (enN I 9) (stN I 9).2)[j]? := fun j W hW => (World.cell?_of_block (a := ⟨kb, j, none⟩) (hW.block kb (St.lt h))).trans (St.cell h j);have HBs : Hid (∀ W, Below w.heap.size w W → W.cell? ⟨kb, 0, none⟩ = some (.int .u64 (I.base : Int))) := fun W hW => (hlow 0 W hW).trans ((lyC_im h.him (by decide)).trans hb);have HEn : Hid (∀ (i j : Nat) W, i < 8 → j < 5 → Below w.heap.size w W → W.cell? ⟨kb, 19 + i * 5 + j, none⟩ = (entC (i + 1) (fstN I (i + 1)) (lenN I (i + 1)))[j]?) := fun i j W hi hj hW => by
  have := (hlow (14 + (5 * (i + 1) + j)) W hW).trans ((lyC_en h.him h.hen (by omega)).trans (en_get I (k := i + 1) (by omega) hj));rw [show 14 + (5 * (i + 1) + j) = 19 + i * 5 + j by omega] at this;exact this
 have HFl : Hid (∀ k, k ≤ 8 → fstN I k + lenN I k ≤ N) := fun k hk => by
  have := fst_len I k (by omega);rw [hzs, hNz] at this;omega
 have c12 := (St.cells h).1;obtain ⟨v0, hw0, _, _⟩ := h.out p rfl;have HAl : Hid (Calls Tryz.prog 58 #[.pointer (some ⟨p, 0, none⟩)] w fun e w' => e = .returned (.slice (some ⟨w.heap.size, 0, none⟩) N N) ∧ Row w' w.heap.size zs ∧ Below w.heap.size w w') := by
  have := all_any hw0 (by omega);rw [hzs, hNz] at this;exact Lib.hid this
 have HSm : Hid (∀ z ∈ zs, z < 256) := hzs ▸ h.sm;have HTb : Hid (∀ W, Below w.heap.size w W → Tab W) := fun W hW => ht.below hW;have H160 : Hid (160 ≤ N) := by have := st9_ge I; rw [hzs, hNz] at this; exact Lib.hid this
 have HEf : Hid (encF I = hdF I zs ++ zs.drop 160) := show _ = _ by rw [encF, hzs]
 have hEl : (encF I).length = N := by rw [HEf.out, List.length_append, hdF_len, List.length_drop, hNz]; have := H160.out; omega
 have HNz := Lib.hid hNz;rw [hzs, hNz] at hN;rw [hEl];have hq : Int.tdiv (N : Int) 4096 = ((N / 4096 : Nat) : Int) := rfl;have HHd0 : Hid (hdP I zs 0 = magB ++ Pl.le 2 1 ++ Pl.le 2 8 ++ Pl.le 4 (N / 4096) ++ Pl.le 8 I.base) := show _ = _ by rw [hdP, hNz]
 obtain ⟨qn, hqn⟩ : ∃ qn, N / 4096 = qn := ⟨_, rfl⟩
 have hq9 : qn ≤ 1025 := by omega
 rw [hqn] at hq HHd0;have hqw : IntKind.i64.wrap (qn : Int) = (qn : Int) := by rw [IntKind.wrap_i64]; omega
 have hqu : IntKind.u32.wrap (qn : Int) = (qn : Int) := by rw [IntKind.wrap_u32]; omega
 simp only [outV, Option.map] at c12;clear h ht hw0 hlow hqn hzs hEl hb hNz;obtain ⟨S0, hS0⟩ : ∃ S0, w.heap.size = S0 := ⟨_, rfl⟩
 have HS0 : Hid (w.heap.size = S0) := hS0;clear hS0;go_enter Tryz.func25, Tryz.ntmps25
 go_wp2_with fail
 refine HAl.out.mono ?_;rintro e w1 ⟨rfl, hr1, hb1⟩;have HR1 := Lib.hid hr1;have HB1 := Lib.hid hb1;clear hr1 hb1 HAl;go_wp2_with fail
 refine (newWriter_any w1).mono ?_;rintro e w2 ⟨rfl, hw2, hb2⟩;have HW2 := Lib.hid hw2;have HR2 : Hid (Row w2 w.heap.size zs) := HR1.out.below hb2;have HB2 : Hid (Below w.heap.size w w2) := HB1.out.trans (hb2.mono HB1.out.size);have HLt : Hid (w.heap.size < w1.heap.size) := HR1.out.lt;have HQl : Hid (w1.heap.size < w2.heap.size) := hw2.lt;clear hw2 hb2 HR1;have hcv := convert_lit w2 magB #[.int .u8 66, .int .u8 85, .int .u8 76, .int .u8 75, .int .u8 72, .int .u8 69, .int .u8 65, .int .u8 68] rfl;have HSl := Lib.hid (sl_lit w2 magB (magB.length, magB.length + 1) (by decide) (by decide));have HBl : Hid (Below w2.heap.size w2 (w2.alloc (.cells (bvs magB).toArray 5 (magB.length, magB.length + 1)))) := (Below.refl _ _).alloc (Nat.le_refl _) _;simp only [magB, bvs, List.map_cons, List.map_nil, List.length_cons, List.length_nil] at hcv HSl HBl;go_wp2_with fail
 generalize (w2.alloc (.cells #[.int .u8 66, .int .u8 85, .int .u8 76, .int .u8 75, .int .u8 72, .int .u8 69, .int .u8 65, .int .u8 68] 5 (8, 9))) = w3 at HSl HBl;have HW3 : Hid (Wr w3 w1.heap.size (.slice none 0 0) [] 0 w1.heap.size) := wr_low HW2.out HBl.out;have HR3 : Hid (Row w3 w.heap.size zs) := HR2.out.below HBl.out;have HB3 : Hid (Below w.heap.size w w3) := HB2.out.trans (HBl.out.mono HB2.out.size);have HZ3 : Hid (w1.heap.size ≤ w3.heap.size) := Nat.le_trans (Nat.le_of_lt HQl.out) HBl.out.size;clear hcv HW2 HR2 HB2 HBl;obtain ⟨q, hq0⟩ : ∃ q, w1.heap.size = q := ⟨_, rfl⟩
 rw [hq0] at HW3 HLt HZ3;clear HQl HB1;refine (wbytes_any (hq0 ▸ HW3.out) HSl.out (by decide) (by decide) (by rw [hq0]; exact HZ3.out)).mono ?_;rw [hq0];rintro e w4 ⟨rfl, v4, hv4, hk4, _⟩;have HK4 : Hid (Wk q q w3 w4) := Wk.of_foot HW3.out hk4;have HW4 := Lib.hid hv4;clear hv4 hk4 HSl HW3;go_wp2_with fail
 refine (put_u16 (n := 1) HW4.out (by decide) (by simp [magB]) (Nat.le_trans HZ3.out HK4.out.size)).mono ?_;rintro e w5 ⟨rfl, v5, hv5, hk5, _⟩;have HK5 : Hid (Wk q q w3 w5) := HK4.out.trans (Wk.of_foot HW4.out hk5);have HW5 := Lib.hid hv5;clear hv5 hk5 HW4 HK4;go_wp2_with fail
 refine (put_u16 (n := 8) HW5.out (by decide) (by simp [magB, Pl.le_length]) (Nat.le_trans HZ3.out HK5.out.size)).mono ?_;rintro e w6 ⟨rfl, v6, hv6, hk6, _⟩;have HK6 : Hid (Wk q q w3 w6) := HK5.out.trans (Wk.of_foot HW5.out hk6);have HW6 := Lib.hid hv6;clear hv6 hk6 HW5 HK5;go_wp2_with fail
 refine (put_u32 (n := qn) HW6.out (by omega) (by simp [magB, Pl.le_length]) (Nat.le_trans HZ3.out HK6.out.size)).mono ?_;rintro e w7 ⟨rfl, v7, hv7, hk7, _⟩;have HK7 : Hid (Wk q q w3 w7) := HK6.out.trans (Wk.of_foot HW6.out hk7);have HW7 := Lib.hid hv7;have HLow : Hid (∀ W, Wk q q w3 W → Below w.heap.size w W) := fun W hW => HB3.out.trans ((hW.below (Nat.le_refl _) HZ3.out).mono (Nat.le_of_lt HLt.out));have d0 := HBs.out w7 (HLow.out _ HK7.out);clear hv7 hk7 HW6 HK6;go_wp2_with fail
 refine (put_u64 (n := I.base) HW7.out hb9 (by simp [magB, Pl.le_length]) (Nat.le_trans HZ3.out HK7.out.size)).mono ?_;rintro e w8 ⟨rfl, v8, hv8, hk8, _⟩;have HK8 : Hid (Wk q q w3 w8) := HK7.out.trans (Wk.of_foot HW7.out hk8);have HW8 : Hid (Wr w8 q v8 (hdP I zs 0) 0 q) := Lib.hid (by
  rw [HHd0.out];simp only [List.nil_append] at hv8;exact hv8)
 clear hv8 hk8 HW7 HK7 d0 HHd0 HBs;go_wp2_with fail
 go_loopw [39] (fun iv wr => ∃ i : Nat, i ≤ 8 ∧ iv = .int .i64 (i : Int) ∧ ∃ v, Hid (Wr wr q v (hdP I zs i) 0 q) ∧ Hid (Wk q q w3 wr)) (fun iv _ => 8 - (intOf iv).toNat)
 case atStart => exact ⟨0, by decide, rfl, v8, HW8, HK8⟩
 case round =>
  clear HW8 HK8;obtain ⟨i, hi, rfl, v, HW, HK⟩ := hrel
  by_cases hin : i < 8
  ·have ji : (i : Int) < 8 := by omega
   have hw1 : IntKind.i64.wrap ((i : Int) + 1) = ((i + 1 : Nat) : Int) := by rw [IntKind.wrap_i64]; omega
   have HLw : Hid (Below w.heap.size w wr) := HLow.out _ HK.out;have c0 := HEn.out i 0 wr hin (by decide) HLw.out;have c1 := HEn.out i 1 wr hin (by decide) HLw.out;have c2 := HEn.out i 2 wr hin (by decide) HLw.out;have c3 := HEn.out i 3 wr hin (by decide) HLw.out;have c4 := HEn.out i 4 wr hin (by decide) HLw.out;have hfl := HFl.out (i + 1) (by omega);have HNx : Hid (hdP I zs (i + 1) = hdP I zs i ++ entB (i + 1) (fstN I (i + 1)) (lenN I (i + 1)) (Pl.crc ((zs.drop (fstN I (i + 1))).take (lenN I (i + 1))))) := rfl;simp only [entC, List.getElem?_cons_zero, List.getElem?_cons_succ, Nat.add_zero] at c0 c1 c2 c3 c4;obtain ⟨k, hk⟩ : ∃ k, i + 1 = k := ⟨_, rfl⟩
   have HKk : Hid (i + 1 = k) := hk;have hk9 : k ≤ 65535 := by omega
   rw [hk] at c0 c2 c3 hfl HNx hw1;clear hk;generalize fstN I k = f at *;generalize lenN I k = l at *;have HDL : Hid ((hdP I zs i).length = 24 + 16 * i) := hdP_len I zs i;have HRr : Hid (Row wr w.heap.size zs) := row_wk HR3.out HK.out HLt.out (by have := HLt.out; omega);have HCl : Hid (Pl.crc ((zs.drop f).take l) ≤ 4294967295) := crc_lt (fun z hz => HSm.out z (List.mem_of_mem_drop (List.mem_of_mem_take hz)));have HOf : Hid (∀ W, Calls Tryz.prog 64 #[.agg (entA k f l 0), .slice (some ⟨w.heap.size, 0, none⟩) N N] W fun e w' => ∃ ad, e = .returned (.slice (some ⟨w.heap.size, ad, none⟩) l (N - f)) ∧ (ad = f ∨ l = 0) ∧ Below W.heap.size W w') := fun W => ofX hfl (Nat.le_refl _) (by omega) W;have HSlc : Hid (∀ W ad, Row W w.heap.size zs → (ad = f ∨ l = 0) → Sl W (.slice (some ⟨w.heap.size, ad, none⟩) l (N - f)) ((zs.drop f).take l)) := fun W ad hW ha => sl_of_row hW HSm.out (by rw [HNz.out]; exact hfl) (by omega) (by unfold maxLen; omega) ha;have hbl : Below wr.heap.size wr (wr.alloc (.cells (entA k f l 0) 88)) := (Below.refl _ _).alloc (Nat.le_refl _) _;have hx0 : (wr.alloc (.cells (entA k f l 0) 88)).heap[wr.heap.size]? = some (.cells (entA k f l 0) 88 (0, 0)) := heap_alloc_new wr _;have HBL := Lib.hid hbl;have HX0 := Lib.hid hx0;have HCf : Hid (f ≤ 4294967295 ∧ l ≤ 4294967295) := ⟨by omega, by omega⟩
   generalize hcr : Pl.crc ((zs.drop f).take l) = cr at *;have HCr : Hid (Pl.crc ((zs.drop f).take l) = cr) := hcr;clear hbl hx0 hcr;unfold entA at HBL HX0;have HOf' := HOf;unfold entA at HOf';go_wp2_with fail
   generalize (wr.alloc (.cells #[.int .i64 (k : Int), .int .i64 0, .int .i64 (f : Int), .int .i64 (l : Int), .int .u32 0] 88)) = W0 at HBL HX0;refine (HOf'.out W0).mono ?_;rintro e wa ⟨ad, rfl, had, hba⟩;have HBa : Hid (Below wr.heap.size wr wa) := HBL.out.trans (hba.mono HBL.out.size);have HRa : Hid (Row wa w.heap.size zs) := HRr.out.below HBa.out;have hxa : wa.heap[wr.heap.size]? = some (.cells #[.int .i64 (k : Int), .int .i64 0, .int .i64 (f : Int), .int .i64 (l : Int), .int .u32 0] 88 (0, 0)) := (hba.block wr.heap.size (Array.getElem?_eq_some_iff.1 HX0.out).1).trans HX0.out;have HXa := Lib.hid hxa;have HCrc := Lib.hid (crc_any (HTb.out wa (HLw.out.trans (HBa.out.mono HLw.out.size))) (HSlc.out wa ad HRa.out had));rw [HCr.out] at HCrc;have d4 : wa.cell? ⟨wr.heap.size, 4, none⟩ = some (.int .u32 0) := by rw [cell_of_row _ _ _ _ _ _ hxa]; rfl
   have g4 : wa.frozen? ⟨wr.heap.size, 4, none⟩ = false := by simp [World.frozen?, hxa]
   have hx9 : (wa.setCell ⟨wr.heap.size, 4, none⟩ (.int .u32 (cr : Int))).heap[wr.heap.size]? = some (.cells (entA k f l (cr : Int)) 88 (0, 0)) := by simp [World.setCell, Array.getElem?_modify, hxa, entA]
   have HX9 := Lib.hid hx9;have HB9 : Hid (Below wr.heap.size wr (wa.setCell ⟨wr.heap.size, 4, none⟩ (.int .u32 (cr : Int)))) := HBa.out.setCell (Nat.le_refl _) _;clear hxa hba had HOf HOf' hx9 HSlc;go_wp2_with fail
   refine HCrc.out.mono ?_;rintro e wb ⟨rfl, hwb⟩;subst hwb;go_upto_region 12 with fail
   generalize wb.setCell ⟨wr.heap.size, 4, none⟩ (.int .u32 (cr : Int)) = W9 at HX9 HB9 ⊢;have e0 : W9.cell? ⟨wr.heap.size, 0, none⟩ = some (.int .i64 (k : Int)) := by rw [cell_of_row _ _ _ _ _ _ HX9.out]; rfl
   have e1 : W9.cell? ⟨wr.heap.size, 1, none⟩ = some (.int .i64 0) := by rw [cell_of_row _ _ _ _ _ _ HX9.out]; rfl
   have e2 : W9.cell? ⟨wr.heap.size, 2, none⟩ = some (.int .i64 (f : Int)) := by rw [cell_of_row _ _ _ _ _ _ HX9.out]; rfl
   have e3 : W9.cell? ⟨wr.heap.size, 3, none⟩ = some (.int .i64 (l : Int)) := by rw [cell_of_row _ _ _ _ _ _ HX9.out]; rfl
   have e4 : W9.cell? ⟨wr.heap.size, 4, none⟩ = some (.int .u32 (cr : Int)) := by rw [cell_of_row _ _ _ _ _ _ HX9.out]; rfl
   have HLay := Lib.hid (elayX (k := k) (f := f) (l := l) (c := cr) (wr_low HW.out HB9.out) hk9 HCf.out.1 HCf.out.2 HCl.out (by rw [HDL.out]; omega) (Nat.le_trans (Nat.le_trans HZ3.out HK.out.size) HB9.out.size));unfold entA at HLay;clear HX9 HXa HX0 d4 g4 c0 c1 c2 c3 c4;go_wp2_with fail
   refine HLay.out.mono ?_;rintro e wc ⟨rfl, vc, hvc, hkc⟩;rw [← HNx.out] at hvc;have HWc := Lib.hid hvc;have HKc : Hid (Wk q q w3 wc) := (HK.out.trans (Wk.of_below HB9.out)).trans hkc;clear hvc hkc HLay e0 e1 e2 e3 e4;go_wp2_with fail
   go_roundw
   case rel => exact ⟨k, by have := HKk.out; omega, rfl, vc, HWc, HKc⟩
   case measure => have := HKk.out; simp [intOf]; omega
  ·obtain rfl : i = 8 := by omega
   have HLw : Hid (Below w.heap.size w wr) := HLow.out _ HK.out;have HRr : Hid (Row wr w.heap.size zs) := row_wk HR3.out HK.out HLt.out (by have := HLt.out; omega);have HDL : Hid ((hdP I zs 8).length = 152) := hdP_len I zs 8;have HHF : Hid (hdF I zs = hdP I zs 8 ++ Pl.le 4 (Pl.crc (hdP I zs 8)) ++ Pl.le 4 0) := rfl;have HHl : Hid ((hdF I zs).length = 160) := hdF_len I zs;have HZq : Hid (q ≤ wr.heap.size) := Nat.le_trans HZ3.out HK.out.size;have HSe := Lib.hid (wseal_any (fr := 0) (HTb.out wr HLw.out) HW.out (Nat.zero_le _) (by rw [HDL.out]; decide) HZq.out);simp only [List.drop_zero] at HSe;generalize hdP I zs 8 = H8 at *;go_wp2_with fail
   refine HSe.out.mono ?_;rintro e wa ⟨rfl, va, hva, hka, _⟩;have HKa : Hid (Wk q q wr wa) := Wk.of_foot HW.out hka;have HPw := Lib.hid (put_u32 (n := 0) hva (by decide) (by rw [List.length_append, HDL.out, Pl.le_length]; decide) (Nat.le_trans HZq.out HKa.out.size));have HWa := Lib.hid hva;clear hva hka HSe HW;go_wp2_with fail
   refine HPw.out.mono ?_;rintro e wb ⟨rfl, vb, hvb, hkb, _⟩;rw [← HHF.out] at hvb;have HKb : Hid (Wk q q wr wb) := HKa.out.trans (Wk.of_foot HWa.out hkb);have HAl := Lib.hid (all_any hvb (by rw [HHl.out]; decide));rw [HHl.out] at HAl;have HRb : Hid (Row wb w.heap.size zs) := row_wk HRr.out HKb.out HLt.out (by have := HLt.out; omega);have HBb : Hid (Below w.heap.size w wb) := HLw.out.trans ((HKb.out.below (Nat.le_refl _) HZq.out).mono (Nat.le_of_lt HLt.out));have HSmH : Hid (∀ z ∈ hdF I zs, z < 256) := hvb.2.2.2;clear hvb hkb HPw HWa;go_upto_region 16 with fail
   generalize hdF I zs = HF at *;go_wp2_with fail
   refine HAl.out.mono ?_;rintro e wd ⟨rfl, hrd, hbd⟩;have HRd : Hid (Row wd wb.heap.size HF) := hrd;have HRz : Hid (Row wd w.heap.size zs) := HRb.out.below hbd;have HBd : Hid (Below w.heap.size w wd) := HBb.out.trans (hbd.mono HBb.out.size);have HSz : Hid ((Tryz.prog.info? 5).map (·.size) = some 1) := show _ = _ by kernel_rfl
   have HPos : Hid (∀ dp sp : Option Addr, dp = some ⟨w.heap.size, 0, none⟩ → sp = some ⟨wb.heap.size, 0, none⟩ → 0 < (bvs HF).length → dp = some ⟨w.heap.size, 0, none⟩ ∧ ∃ ad, sp = some ad ∧ ∀ j v, (bvs HF)[j]? = some v → wd.cell? (ad.add j) = some v) := fun dp sp hdp hsp _ => by
    subst hdp hsp;refine ⟨rfl, ⟨wb.heap.size, 0, none⟩, rfl, fun j v hj => ?_⟩;have hjl : j < HF.length := by simpa [bvs_length] using (List.getElem?_eq_some_iff.1 hj).1
    rw [bvs_get HF j hjl] at hj;rw [Addr.add_lit, Nat.zero_add, HRd.out.cell j hjl, hj]
   have HPl : Hid ((bvs HF).length = 160) := show _ = _ by rw [bvs_length, HHl.out]
   have HMn : Hid ((bvs HF).length = Nat.min 160 N) := show _ = _ by rw [HPl.out]; exact (Nat.min_eq_left H160.out).symm
   have HFt : Hid (0 + (bvs HF).length ≤ (bvs zs).length) := show _ ≤ _ by rw [HPl.out, bvs_length, HNz.out]; have := H160.out; omega
   clear hrd hbd HAl HRb HBb;go_wp2_with (refine wpList_copy_splice rfl (.tmp 56) (.tmp 58) 43 43 rfl 5 Tryz.underlying43 HSz.out _ _ _ _ 160 160 rfl rfl w.heap.size 0 (bvs zs) 5 HRz.out (bvs HF) HMn.out (HPos.out _ _ rfl rfl) HFt.out (bvs_one HF) w.heap.size w HBd.out (Nat.le_refl _) ?_)
   intro we HG hBe;have HRe : Hid (Row we w.heap.size (encF I)) := by
    have h := HG.out;rw [HEf.out];unfold splice at h;rw [List.take_zero, List.nil_append, Nat.zero_add, HPl.out] at h;have e : bvs HF ++ (bvs zs).drop 160 = bvs (HF ++ zs.drop 160) := by rw [bvs, bvs, bvs, List.map_append, List.map_drop]
    rw [e] at h;exact Lib.hid h
   have HBe := Lib.hid hBe;clear hBe HG HPos HSz HPl HMn HFt;go_wp2_with fail
   go_ret
   exact ⟨rfl, HRe.out, HBe.out⟩
end
end Go.Proofs.YtmfkggngjeolcaaGreatDoor
namespace Go.Proofs.YtmfkggngjeolcaaGreatDoor
open Go.RowKit Bn
theorem readyValW {P : Program} {md : Region.Mode} {ops : Array Oper} {Q : Exit → Act → World → Prop} {S : World → Prop} {i d : Nat} {o : Oper} {fuel : Nat} {listed : Array Bool} {a : Act} {w w' : World} {rs : List Nat} (hi : ops[i]? = some o) (hd : o.dst = some d) (hw : Region.wanted o (yielded ops a.tmps) = true) (v : Value) (hv : (execOp a.eval o).run P w = .ok (.value v) w') (hS : S w')
  (hK : wpAnyH P md ops Q S fuel (listed.setIfInBounds i true) (a.put (some d) v) w') (hs : AllReadyH P md ops Q S fuel listed a w rs) : AllReadyH P md ops Q S fuel listed a w (i :: rs) := by
 rw [← hd] at hK;refine AllReadyH.cons hi (fun K hK' => ?_) hs;rw [if_pos hw];unfold Oper.wp;rw [hv, Oper.upon_value];exact hK'.out _ _ hS (fun _ => hK)
theorem load_arr_run {oo : Oper} {a : Act} {w : World} (ty : TypeId) {x : Operand} (ho : oo.op = .load ty x) {b : Nat} {g : Array Value} {d : TypeDesc} (hx : a.eval x = .pointer (some ⟨b, 0, none⟩)) (h : w.heap[b]? = some (.cells g ty (0, 0))) (hu : Tryz.prog.underlying ty = some d) (hd : d.isRow = true) (hz : (Tryz.prog.info? ty).map (·.size) = some g.size) : (execOp a.eval oo).run Tryz.prog w = .ok (.value (.agg g)) w := by
 have hr : (Instr.loadAt ty (.pointer (some ⟨b, 0, none⟩))).run Tryz.prog w = .ok (.agg g) w := by
  have := run_loadAt_mid (P := Tryz.prog) w b 0 ty g.toList d (fun j v hv => by
   rw [Nat.zero_add, cell_of_row _ _ _ _ _ _ h, ← Array.getElem?_toList];exact hv) hu hd (by rw [Array.length_toList]; exact hz)
  simpa using this
 unfold execOp;simp only [ho, hx, Sem.run_bind, Sem.run_pure, Result.andThen_ok, hr]
theorem build_run {oo : Oper} {a : Act} {w : World} (ty : TypeId) {parts : Array (Nat × Operand)} (ho : oo.op = .build ty parts) {vals : Array (Nat × Value)} (hv : (parts.map fun (i, x) => (i, a.eval x)) = vals) {V : Value} (hr : (Instr.build ty vals).run Tryz.prog w = .ok V w) : (execOp a.eval oo).run Tryz.prog w = .ok (.value V) w := by
 unfold execOp;simp only [ho, Sem.run_bind, Sem.run_pure, Result.andThen_ok, hv, hr]
theorem size_why (I : Im) (h : (sizeF I).2 = 0) : (stN I 9).2 = 0 ∧ (stN I 9).1.length ≤ 4198399 := by
 unfold sizeF at h
 by_cases h1 : (stN I 9).2 = 0
 ·rw [if_neg (fun e => e h1)] at h
  by_cases h2 : 1024 < (stN I 9).1.length / 4096
  ·rw [if_pos h2] at h; simp at h
  ·exact ⟨h1, by omega⟩
 ·rw [if_pos h1] at h;exact absurd h h1
theorem encodeX {w : World} {im : List Value} {I : Im} (h : ImA w im I) (ht : Tab w) (hs : szI I ≤ 20000000000) : Calls Tryz.prog 11 #[.agg im.toArray] w fun e w' => (((sizeF I).2 ≠ 0 ∧ e = .returned (.tuple #[.slice none 0 0, .int .i64 (sizeF I).2])) ∨ ((sizeF I).2 = 0 ∧ ∃ g, e = .returned (.tuple #[.slice (some ⟨g, 0, none⟩) (encF I).length (encF I).length, .int .i64 0]) ∧ w.heap.size ≤ g ∧ Row w' g (encF I))) ∧ Below w.heap.size w w' := by
 have hlen := h.len;have HZ0 : Hid ((w.alloc (.cells im.toArray 33)).heap[w.heap.size]? = some (.cells im.toArray 33 (0, 0))) := heap_alloc_new w _;have hb1 : Below w.heap.size w (w.alloc (.cells im.toArray 33)) := (Below.refl _ _).alloc (Nat.le_refl _) _;have HB1 := Lib.hid hb1;have HSz := Lib.hid (sizeX (h.below hb1) hs);have HIm : Hid (ImA w im I) := h;have HIn := Lib.hid (info_im hlen);have HBu := Lib.hid (fun p => ly_build2 hlen p);have HT : Hid (Tab w) := ht;have HSs : Hid (szI I ≤ 20000000000) := hs;have HEn1 := Lib.hid (enters_of Tryz.func23 (by kernel_rfl) rfl);clear h ht hs hb1;obtain ⟨z1, hz1⟩ : ∃ z1, (sizeF I).1 = z1 := ⟨_, rfl⟩
 obtain ⟨z2, hz2⟩ : ∃ z2, (sizeF I).2 = z2 := ⟨_, rfl⟩
 have HZ2 : Hid ((sizeF I).2 = z2) := hz2;rw [hz1, hz2] at HSz;rw [hz2];clear hz1 hz2
 by_cases hy : z2 = 0
 ·go_enter Tryz.func11, Tryz.ntmps11
  go_wp2_with (refine wpList_load_arr rfl 33 (.tmp 1) rfl (b := w.heap.size) (g := im.toArray) rfl HZ0.out Tryz.underlying33 rfl HIn.out ?_)
  refine HSz.out.mono ?_;rintro e w2 ⟨rfl, hb2⟩;have hx2 : w2.heap[w.heap.size]? = some (.cells im.toArray 33 (0, 0)) := (hb2.block w.heap.size (by simp)).trans HZ0.out;have HX2 := Lib.hid hx2;have HB2 : Hid (Below w.heap.size w w2) := HB1.out.trans (hb2.mono HB1.out.size);clear hb2 hx2 HSz HZ0 HB1;go_wp2_with fail
  refine wp_region_held_drew (S := fun W => W.heap[w.heap.size]? = some (.cells im.toArray 33 (0, 0))) (by kernel_rfl) HX2.out (fun hHeld => ?_);simp only [List.size_toArray, List.length_cons, List.length_nil];refine takeH (i := 0) (d := 15) (v := .agg im.toArray) rfl rfl (by kernel_rfl) (by kernel_rfl) (by kernel_rfl) (fun _ _ _ h => h) (Or.inl ⟨by kernel_rfl, fun W hW => load_arr_run 33 (x := .tmp 1) rfl rfl hW Tryz.underlying33 rfl HIn.out⟩) hHeld ?_;simp only [Act.put, List.setIfInBounds_toArray, List.set_cons_succ, List.set_cons_zero];refine wpAnyH_ready (rs := [1]) (by kernel_rfl) (by simp) ?_;refine readyCall (i := 1) (d := 16) rfl rfl (by kernel_rfl) 23 _ _ rfl HEn1.out _ (by simp [Act.eval]) (R := fun v w' => v = .pointer (some ⟨w2.drew.heap.size, 0, none⟩) ∧ Wr w' w2.drew.heap.size (.slice none 0 0) [] 0 w2.drew.heap.size ∧ Below w2.drew.heap.size w2.drew w') ((newWriter_any w2.drew).mono (fun e w' h => ⟨_, h.1, rfl, h.2⟩)) (fun v w' hR => (hR.2.2.block w.heap.size (Array.getElem?_eq_some_iff.1 hHeld).1).trans hHeld) ?_ AllReadyH.nil;rintro u w3 ⟨rfl, hw3, hb3⟩ hH3;simp only [Act.put, List.setIfInBounds_toArray, List.set_cons_succ, List.set_cons_zero];obtain ⟨p, hp⟩ : ∃ p, w2.drew.heap.size = p := ⟨_, rfl⟩
  rw [hp] at hw3 hb3 ⊢;have hpw : w.heap.size ≤ p := by rw [← hp]; exact HB2.out.size
  have hB3 : Below w.heap.size w w3 := (HB2.out.trans (c := w2.drew) ⟨rfl, rfl, rfl, Nat.le_refl _, fun _ _ => rfl⟩).trans (hb3.mono hpw);have hb4 : Below w3.heap.size w3 (w3.alloc (.cells (lyC im (some p) 0 en0 0).toArray 91)) := (Below.refl _ _).alloc (Nat.le_refl _) _;have hB4 : Below w.heap.size w (w3.alloc (.cells (lyC im (some p) 0 en0 0).toArray 91)) := hB3.trans (hb4.mono hB3.size);have H4 := Lib.hid (st_begin HIm.out (o := some p) (W := w3.alloc (.cells (lyC im (some p) 0 en0 0).toArray 91)) (kb := w3.heap.size) (heap_alloc_new w3 _) (fun r hr => by
   cases hr
   refine ⟨.slice none 0 0, ⟨(hb4.block p hw3.lt).trans hw3.1, own_nil _ _, (fun e => by cases e), (fun z hz => by cases hz)⟩, ?_, hpw⟩;have := hw3.lt;omega) hB3.size hB4)
  have HC := Lib.hid (allX HIm.out.g H4.out HSs.out);have hS4 : (w3.alloc (.cells (lyC im (some p) 0 en0 0).toArray 91)).heap[w.heap.size]? = some (.cells im.toArray 33 (0, 0)) := (hb4.block w.heap.size (Array.getElem?_eq_some_iff.1 hH3).1).trans hH3;have hbx : ∀ (V : Array Value) (W : World), True := fun _ _ => trivial;refine takeH (i := 2) (d := 17) (v := .agg (lyC im (some p) 0 en0 0).toArray) rfl rfl (by kernel_rfl) (by kernel_rfl) (by kernel_rfl) (fun _ _ _ h => h) (Or.inl ⟨by kernel_rfl, fun W _ => build_run 91 rfl (by simp [Act.eval, Act.put]) (HBu.out p W)⟩) hH3 ?_;simp only [Act.put, List.setIfInBounds_toArray, List.set_cons_succ, List.set_cons_zero];refine wpAnyH_ready (rs := [3]) (by kernel_rfl) (by simp) ?_;refine readyValW (i := 3) (d := 18) (w' := w3.alloc (.cells (lyC im (some p) 0 en0 0).toArray 91)) rfl rfl (by kernel_rfl) (.pointer (some ⟨w3.heap.size, 0, none⟩)) (by go_simp) hS4 ?_ AllReadyH.nil;simp only [Act.put, List.setIfInBounds_toArray, List.set_cons_succ, List.set_cons_zero];have hS9 := Lib.hid hS4;clear hbx hS4 H4 hw3 hb3 hH3 hHeld hB3 hb4 hp;have HB4 := Lib.hid hB4;clear hB4;generalize w3.alloc (.cells (lyC im (some p) 0 en0 0).toArray 91) = W4 at HC HB4 hS9 ⊢;refine wpAnyH_ready (rs := [4]) (by kernel_rfl) (by simp) ?_;refine readyValW (i := 4) (d := 6) (w' := W4) rfl rfl (by kernel_rfl) (.pointer (some ⟨w3.heap.size, 0, none⟩)) (by go_simp) hS9.out ?_ AllReadyH.nil;simp only [Act.put, List.setIfInBounds_toArray, List.set_cons_succ, List.set_cons_zero];refine wpAnyH_done (by kernel_rfl) ?_ _;go_wp2_with fail
  refine HC.out.mono ?_;rintro e w5 ⟨rfl, h5⟩;have HB5 : Hid (Below w.heap.size w w5) := h5.fr.below (Nat.le_refl _);have hsz := size_why I (by rw [HZ2.out]; exact hy);have HH := Lib.hid (headedX h5 HIm.out.base.1 HIm.out.base.2 (HT.out.below HB5.out) hsz.2);clear h5 HC hsz;go_wp2_with fail
  refine HH.out.mono ?_;rintro e w6 ⟨rfl, hr6, hb6⟩;have HR6 := Lib.hid hr6;have HB6 : Hid (Below w.heap.size w w6) := HB5.out.trans (hb6.mono HB5.out.size);have HS6 : Hid (w.heap.size ≤ w5.heap.size) := HB5.out.size;clear hr6 hb6 HH;go_wp2_with fail
  go_ret2
  exact ⟨.inr ⟨hy, _, rfl, HS6.out, HR6.out⟩, HB6.out⟩
 ·go_enter Tryz.func11, Tryz.ntmps11
  go_wp2_with (refine wpList_load_arr rfl 33 (.tmp 1) rfl (b := w.heap.size) (g := im.toArray) rfl HZ0.out Tryz.underlying33 rfl HIn.out ?_)
  refine HSz.out.mono ?_;rintro e w2 ⟨rfl, hb2⟩;have HB2 : Hid (Below w.heap.size w w2) := HB1.out.trans (hb2.mono HB1.out.size);clear hb2 HSz HZ0 HB1;go_wp2_with fail
  go_ret2
  exact ⟨.inl ⟨hy, rfl⟩, HB2.out⟩
end Go.Proofs.YtmfkggngjeolcaaGreatDoor
