import Derived.Test.YtlplbbnicfeoaaaGreatPq14
import Derived.Laws.StructEq
/- layWithin: bytes laid into one page. Own work. -/
namespace Go.Proofs.YtlplbbnicfeoaaaGreat
open Go.RowKit Go.Maps
/-- a page that lies at g is written: what is held behind it -/
theorem Held.wrote {w w' : World} {B : Nat} {T : Nat → Option Nat} {M : Nat → Nat} {k o g : Nat} {zs : List Nat} (h : Held w B T M) (hk : T k = some g) (hz : ∀ z ∈ zs, z < 256) (hl : o + zs.length ≤ 4096)
    (hg : Pg w' g ((pageOf M k).take o ++ zs ++ (pageOf M k).drop (o + zs.length))) (hK : Keeps (fun j => j = g) w w') (hn : ¬ isZ (putAt M (k * 4096 + o) zs) k) : Held w' B T (putAt M (k * 4096 + o) zs) := by
  obtain ⟨p1, p2, p3, p4, p5⟩ := h.2
  have hz1 : nz M k = true := nz_true (p1 k g hk).2
  have hz2 : nz (putAt M (k * 4096 + o) zs) k = true := nz_true hn
  have hc : cnt (putAt M (k * 4096 + o) zs) = cnt M := by
    have := cnt_one (M := M) (M' := putAt M (k * 4096 + o) zs) (h.low hk) (fun j hj => by unfold nz; rw [page_put_other M hl hj])
    rw [hz1, hz2] at this
    omega
  refine ⟨by rw [hc]; exact h.1.keeps hK (fun e => h.apart hk e.symm), fun k' g' e => ?_, fun k' e => ?_, p3, putAt_small p4 hz, p5⟩
  · by_cases hk' : k' = k
    · subst hk'
      rw [hk] at e
      cases e
      rw [page_put_same M k' o zs hl] at hg
      exact ⟨hg, hn⟩
    · rw [page_put_other M hl hk']
      refine ⟨((p1 k' g' e).1).keeps hK (fun e' => hk' (p3 k' k g' e (by rw [hk, e']))), fun hz' => (p1 k' g' e).2 (isZ_congr (fun i hi => (put_other M hl hk' i hi).symm) hz')⟩
  · exact isZ_congr (put_other M hl (fun e' => by rw [e', hk] at e; cases e)) (p2 k' e)
/-- a new page is put in -/
theorem Held.fresh {w w' : World} {B : Nat} {T : Nat → Option Nat} {M : Nat → Nat} {k o g : Nat} {zs : List Nat} (h : Held w B T M) (hk : T k = none) (hkn : k < pagesN) (hz : ∀ z ∈ zs, z < 256) (hl : o + zs.length ≤ 4096) (hgn : w.heap.size ≤ g)
    (hm : MapT w' B (upd T k (some g)) (cnt M + 1)) (hg : Pg w' g ((pageOf M k).take o ++ zs ++ (pageOf M k).drop (o + zs.length))) (hK : Keeps (fun j => j = B) w w') (hn : ¬ isZ (putAt M (k * 4096 + o) zs) k) : Held w' B (upd T k (some g)) (putAt M (k * 4096 + o) zs) := by
  obtain ⟨p1, p2, p3, p4, p5⟩ := h.2
  have hz1 : nz M k = false := nz_false.2 (p2 k hk)
  have hz2 : nz (putAt M (k * 4096 + o) zs) k = true := nz_true hn
  have hc : cnt (putAt M (k * 4096 + o) zs) = cnt M + 1 := by
    have := cnt_one (M := M) (M' := putAt M (k * 4096 + o) zs) hkn (fun j hj => by unfold nz; rw [page_put_other M hl hj])
    rw [hz1, hz2] at this
    simpa using this
  have hnew : ∀ k' g', T k' = some g' → g' ≠ g := fun k' g' e e' => by
    have := ((p1 k' g' e).1).lt
    omega
  refine ⟨by rw [hc]; exact hm, fun k' g' e => ?_, fun k' e => ?_, fun k1 k2 g' e1 e2 => ?_, putAt_small p4 hz, fun k' hk' => ?_⟩
  · by_cases hk' : k' = k
    · subst hk'
      rw [upd_same] at e
      cases e
      rw [page_put_same M k' o zs hl] at hg
      exact ⟨hg, hn⟩
    · rw [upd_other _ _ hk'] at e
      rw [page_put_other M hl hk']
      exact ⟨((p1 k' g' e).1).keeps hK (h.apart e), fun hz' => (p1 k' g' e).2 (isZ_congr (fun i hi => (put_other M hl hk' i hi).symm) hz')⟩
  · by_cases hk' : k' = k
    · subst hk'
      rw [upd_same] at e
      cases e
    · rw [upd_other _ _ hk'] at e
      exact isZ_congr (put_other M hl hk') (p2 k' e)
  · by_cases h1 : k1 = k
    · by_cases h2 : k2 = k
      · rw [h1, h2]
      · subst h1
        rw [upd_same] at e1
        rw [upd_other _ _ h2] at e2
        cases e1
        exact absurd rfl (hnew _ _ e2)
    · by_cases h2 : k2 = k
      · subst h2
        rw [upd_same] at e2
        rw [upd_other _ _ h1] at e1
        cases e2
        exact absurd rfl (hnew _ _ e1)
      · rw [upd_other _ _ h1] at e1
        rw [upd_other _ _ h2] at e2
        exact p3 k1 k2 g' e1 e2
  · rw [upd_other _ _ (by omega)]
    exact p5 k' hk'
theorem not_isZ_put {M : Nat → Nat} {k o : Nat} {zs : List Nat} (hl : o + zs.length ≤ 4096) (hz : allZ zs = false) : ¬ isZ (putAt M (k * 4096 + o) zs) k := fun h => by
  obtain ⟨z, hz1, hz2⟩ := List.all_eq_false.1 hz
  obtain ⟨i, hi, rfl⟩ := List.getElem_of_mem hz1
  have := h (o + i) (by omega)
  rw [← Nat.add_assoc, putAt_in M (k * 4096 + o) zs i hi, List.getD_eq_getElem?_getD, List.getElem?_eq_getElem hi] at this
  exact hz2 (by simpa using this)
def LaidPost (w : World) (B : Nat) (T : Nat → Option Nat) (M : Nat → Nat) (e : Ending) (w' : World) : Prop := e = .returned (.tuple #[]) ∧ ∃ T', Held w' B T' M ∧ Keeps (Foot B T) w w' ∧ Grows w.heap.size T T'
set_option maxRecDepth 100000 in
set_option maxHeartbeats 4000000 in
theorem layWithin_old {w : World} {B : Nat} {T : Nat → Option Nat} {M : Nat → Nat} {k r b o c g n : Nat} {zs : List Nat} (h : Held w B T M) (hk : T k = some g) (hkb : k < 1048576) (hr : r < 4096) (hs : Sl w (.slice (some ⟨b, o, none⟩) n c) zs) (hn : n = zs.length) (hl : r + zs.length ≤ 4096) (hz : allZ zs = false) :
    Calls Tryz.prog 74 #[.map (some B), .int .u64 ((k * 4096 + r : Nat) : Int), .slice (some ⟨b, o, none⟩) n c] w (LaidPost w B T (putAt M (k * 4096 + r) zs)) := by
  have HH : Hid (Held w B T M) := h
  have HS : Hid (Sl w (.slice (some ⟨b, o, none⟩) n c) zs) := hs
  have hlk := h.1.look_some hk (by omega)
  have HP : Hid (Pg w g (pageOf M k)) := (h.2.1 k g hk).1
  have HN : Hid (¬ isZ (putAt M (k * 4096 + r) zs) k) := not_isZ_put hl hz
  have HZ : Hid (Calls Tryz.prog 89 #[.slice (some ⟨b, o, none⟩) n c] w fun e w' => e = .returned (.bool false) ∧ w' = w) := (zeros_any hs).mono fun e w' h => by rw [hz] at h; exact h
  obtain ⟨a, ha⟩ : ∃ a, a = k * 4096 + r := ⟨_, rfl⟩
  have HA : Hid (a = k * 4096 + r) := ha
  have q1 : (a : Int) / 4096 = (k : Int) := by omega
  have q2 : (a : Int) % 4096 = (r : Int) := by omega
  have hal : a < 4294967296 := by omega
  rw [← ha]
  have HK : Hid (T k = some g) := hk
  have HR : Hid (r + zs.length ≤ 4096) := hl
  have HNz : Hid (n = zs.length) := hn
  have HL : Hid (r + n ≤ (pageOf M k).length) := by rw [pageOf_length, hn]; exact hl
  have HMn : Hid (n = min zs.length (4096 - r)) := by show n = _; omega
  have hslc := fun W => slice_page W g r hr
  clear h hs ha hk hn hl hz
  go_enter Tryz.func74, Tryz.ntmps74
  go_wp2_with (first | (go_at_call 89; refine HZ.out.mono ?_; rintro e w' ⟨rfl, hw⟩; have hw := hw.symm; subst hw) | (refine wpList_copy_mid rfl (.tmp 31) (.tmp 32) rfl rfl rfl HP.out n HMn.out HS.out HL.out ?_; intro w1 h1 k1; have HG1 : Hid (Pg w1 g ((pageOf M k).take r ++ zs.take n ++ (pageOf M k).drop (r + n))) := h1; have HK1 : Hid (Keeps (fun j => j = g) w w1) := k1; clear h1 k1))
  go_end0
  have hg := HG1.out
  rw [HNz.out, List.take_length] at hg
  rw [HA.out]
  exact ⟨rfl, T, HH.out.wrote HK.out HS.out.small HR.out hg HK1.out HN.out, HK1.out.mono (fun i _ e => .inr ⟨k, by rw [e]; exact HK.out⟩), Grows.refl _ _⟩
theorem page_zero {M : Nat → Nat} {k : Nat} (h : isZ M k) : zeros4 = pageOf M k := page_ext List.length_replicate fun i hi => by rw [zeros4, List.getElem?_replicate, if_pos hi, h i hi]
theorem new_pg {w w1 w2 : World} {B : Nat} {L : List Nat} (hp : zeros4 = L) (h1 : w1 = w.alloc (.cells (bvs zeros4).toArray 159)) (h2 : Keeps (fun j => j = B) w1 w2) (hB : B < w.heap.size) : Pg w2 w.heap.size L := by
  subst h1
  refine (show Pg (w.alloc (.cells (bvs zeros4).toArray 159)) w.heap.size L from ?_).keeps h2 (by omega)
  rw [← hp]
  exact heap_alloc_new w _
theorem new_sl {w w1 w2 : World} {B b o n c : Nat} {zs : List Nat} {O : Obj} (hs : Sl w (.slice (some ⟨b, o, none⟩) n c) zs) (h1 : w1 = w.alloc O) (h2 : Keeps (fun j => j = B) w1 w2) (hB : b ≠ B) : Sl w2 (.slice (some ⟨b, o, none⟩) n c) zs := by
  subst h1
  exact (hs.below ((Below.refl _ _).alloc (Nat.le_refl _) _)).keeps h2 (fun k e => by cases e; exact hB)
set_option maxRecDepth 100000 in
set_option maxHeartbeats 4000000 in
theorem layWithin_new {w : World} {B : Nat} {T : Nat → Option Nat} {M : Nat → Nat} {k r b o c n : Nat} {zs : List Nat} (h : Held w B T M) (hk : T k = none) (hkb : k < 1048576) (hr : r < 4096) (hs : Sl w (.slice (some ⟨b, o, none⟩) n c) zs) (hn : n = zs.length) (hl : r + zs.length ≤ 4096) (hz : allZ zs = false) (hbw : b < w.heap.size) (hbB : b ≠ B) :
    Calls Tryz.prog 74 #[.map (some B), .int .u64 ((k * 4096 + r : Nat) : Int), .slice (some ⟨b, o, none⟩) n c] w (LaidPost w B T (putAt M (k * 4096 + r) zs)) := by
  have HH : Hid (Held w B T M) := h
  have HS : Hid (Sl w (.slice (some ⟨b, o, none⟩) n c) zs) := hs
  have hlk := h.1.look_none hk (by omega)
  have HP : Hid (zeros4 = pageOf M k) := page_zero (h.2.2.1 k hk)
  have HN : Hid (¬ isZ (putAt M (k * 4096 + r) zs) k) := not_isZ_put hl hz
  have HZ : Hid (Calls Tryz.prog 89 #[.slice (some ⟨b, o, none⟩) n c] w fun e w' => e = .returned (.bool false) ∧ w' = w) := (zeros_any hs).mono fun e w' h => by rw [hz] at h; exact h
  obtain ⟨a, ha⟩ : ∃ a, a = k * 4096 + r := ⟨_, rfl⟩
  have HA : Hid (a = k * 4096 + r) := ha
  have q1 : (a : Int) / 4096 = (k : Int) := by omega
  have q2 : (a : Int) % 4096 = (r : Int) := by omega
  have hal : a < 4294967296 := by omega
  rw [← ha]
  have HK : Hid (T k = none) := hk
  have HR : Hid (r + zs.length ≤ 4096) := hl
  have HNz : Hid (n = zs.length) := hn
  have HL : Hid (r + n ≤ (pageOf M k).length) := by rw [pageOf_length, hn]; exact hl
  have HMn : Hid (n = min zs.length (4096 - r)) := by show n = _; omega
  have HC : Hid (cnt M < maxLen) := Nat.lt_of_le_of_lt (cnt_le M) (by decide)
  have HBn : Hid (b < w.heap.size ∧ b ≠ B) := ⟨hbw, hbB⟩
  have HKb : Hid (k < 4503599627370496) := (by omega : k < 4503599627370496)
  have hslc := fun W => slice_page W w.heap.size r hr
  clear h hs ha hk hn hl hz hbw hbB
  go_enter Tryz.func74, Tryz.ntmps74
  go_wp2_with (first | (go_at_call 89; refine HZ.out.mono ?_; rintro e w' ⟨rfl, hw⟩; have hw := hw.symm; subst hw) | (refine wpList_new_page rfl rfl ?_; intro w1 hw1; have HW1 : Hid (w1 = w.alloc (.cells (bvs zeros4).toArray 159)) := hw1; have HM1 : Hid (MapT w1 B T (cnt M)) := (by rw [hw1]; exact (HH.out.below ((Below.refl _ _).alloc (Nat.le_refl _) _)).1); clear hw1) | (refine wpList_put_page rfl (.tmp 24) (.tmp 25) (.tmp 26) rfl rfl rfl rfl HM1.out HK.out HKb.out HC.out ?_; intro w2 h2 k2; have HM2 : Hid (MapT w2 B (upd T k (some w.heap.size)) (cnt M + 1)) := h2; have HK2 : Hid (Keeps (fun j => j = B) w1 w2) := k2; clear h2 k2; have HG2 : Hid (Pg w2 w.heap.size (pageOf M k)) := new_pg HP.out HW1.out HK2.out HH.out.1.lt; have HS2 : Hid (Sl w2 (.slice (some ⟨b, o, none⟩) n c) zs) := new_sl HS.out HW1.out HK2.out HBn.out.2) | (refine wpList_copy_mid rfl (.tmp 31) (.tmp 32) rfl rfl rfl HG2.out n HMn.out HS2.out HL.out ?_; intro w3 h3 k3; have HG3 : Hid (Pg w3 w.heap.size ((pageOf M k).take r ++ zs.take n ++ (pageOf M k).drop (r + n))) := h3; have HK3 : Hid (Keeps (fun j => j = w.heap.size) w2 w3) := k3; clear h3 k3))
  go_end0
  have hg := HG3.out
  rw [HNz.out, List.take_length] at hg
  rw [HA.out]
  have hk1 : Keeps (fun j => j = B) w w1 := by rw [HW1.out]; exact Keeps.alloc _ _
  have hk3 : Keeps (fun j => j = B) w w3 := (hk1.trans HK2.out (fun _ _ e => e)).trans HK3.out (fun i hi e => absurd e (by omega))
  have hlt := HH.out.1.lt
  refine ⟨rfl, _, HH.out.fresh HK.out hkb HS.out.small HR.out (Nat.le_refl _) (HM2.out.keeps HK3.out (by omega)) hg hk3 HN.out, hk3.mono (fun i _ e => .inl e), fun k' g' e => ?_⟩
  by_cases hk' : k' = k
  · rw [hk', upd_same] at e
    cases e
    exact .inr (Nat.le_refl _)
  · rw [upd_other _ _ hk'] at e
    exact .inl e
end Go.Proofs.YtlplbbnicfeoaaaGreat
/- Two pages held against one another; a page read whole; a page of zeros. Own work. -/
namespace Go.Proofs.YtlplbbnicfeoaaaGreat
open Go.RowKit Go.Maps
theorem part_byte (w : World) (L : List Nat) (i : Nat) (hi : i < L.length) : (part 5 (bvs L).toArray i).run Tryz.prog w = .ok (.int .u8 ((L.getD i 0 : Nat) : Int)) w := by
  have := bvs_get L i hi
  simp [part, isAgg, go_sem, this]
theorem beq_drop {L K : List Nat} {k : Nat} (hl : k < L.length) (hk : k < K.length) : (L.drop k == K.drop k) = ((((L.getD k 0 : Nat) : Int) == ((K.getD k 0 : Nat) : Int)) && (L.drop (k + 1) == K.drop (k + 1))) := by
  rw [List.drop_eq_getElem_cons hl, List.drop_eq_getElem_cons hk, List.cons_beq_cons]
  congr 1
  simp only [List.getD_eq_getElem?_getD, List.getElem?_eq_getElem hl, List.getElem?_eq_getElem hk, Option.getD_some]
  rw [Bool.eq_iff_iff]
  simp
  omega
theorem equal_loop (w : World) (d : Nat) (L K : List Nat) (N : Nat) (hl : L.length = N) (hk : K.length = N) : ∀ n k, k + n = N →
    (forIn (m := Sem) (List.range' k n) ((none : Option Bool), ()) fun i __s => do
            let __do_lift ← part 5 (bvs L).toArray i
            let __do_lift_1 ← part 5 (bvs K).toArray i
            let __do_lift ← Op.equalIn (d + 1) 5 __do_lift __do_lift_1
            if (!__do_lift) = true then pure (ForInStep.done (some false, ())) else pure (ForInStep.yield (none, ()))).run Tryz.prog w = .ok (if (L.drop k == K.drop k) = true then none else some false, ()) w := by
  intro n
  induction n with
  | zero =>
    intro k hkn
    rw [List.drop_eq_nil_of_le (by omega), List.drop_eq_nil_of_le (by omega)]
    simp
  | succ n ih =>
    intro k hkn
    rw [List.range'_succ, List.forIn_cons]
    simp only [Sem.run_bind, part_byte w L k (by omega), part_byte w K k (by omega), Result.andThen_ok, run_equalIn_int w d 5 .u8 .u8 _ _ Tryz.underlying5]
    rw [beq_drop (L := L) (K := K) (k := k) (by omega) (by omega)]
    cases e : (((L.getD k 0 : Nat) : Int) == ((K.getD k 0 : Nat) : Int)) with
    | false => simp
    | true =>
      have := ih (k + 1) (by omega)
      simp only [Bool.not_true, Bool.false_eq_true, if_false, Sem.run_pure, Result.andThen_ok, Bool.true_and]
      exact this
theorem equal_bytes (w : World) (d : Nat) (L K : List Nat) (hl : L.length = 4096) (hk : K.length = 4096) :
    (Op.equalIn (d + 1 + 1) 159 (.agg (bvs L).toArray) (.agg (bvs K).toArray)).run Tryz.prog w = .ok (L == K) w := by
  have hu : Tryz.prog.underlying 159 = some (.array 4096 5) := Tryz.underlying159
  obtain ⟨i, hi, _, hz1, _⟩ := info_parts info_byte
  have hs : (sizeOf 5).run Tryz.prog w = .ok 1 w := by simp only [sizeOf, typeInfo, Sem.run_bind, run_program, Result.andThen_ok, hi, Sem.run_pure, hz1]
  rw [Op.equalIn]
  simp only [Sem.run_bind, run_underlying hu, Result.andThen_ok, hs, Std.Legacy.Range.forIn_eq_forIn_range', Nat.mul_one]
  rw [show ([:4096] : Std.Legacy.Range).size = 4096 from rfl]
  rw [equal_loop w d L K 4096 hl hk 4096 0 (by omega)]
  simp only [List.drop_zero, Result.andThen_ok]
  cases e : (L == K) with
  | true => simp
  | false => simp
theorem zero_val (w : World) : (zeroValue 159).run Tryz.prog w = .ok (.agg (bvs zeros4).toArray) w := by
  have h := info_page
  cases hq : Tryz.prog.info? 159 with
  | none => rw [hq] at h; cases h
  | some i =>
    rw [hq] at h
    simp only [Option.map_some, Option.some.injEq, Prod.mk.injEq] at h
    simp only [zeroValue, typeInfo, Sem.run_bind, run_program, Result.andThen_ok, hq, h.1, Sem.run_pure]
theorem run_build_page (w : World) : (Instr.build 159 #[]).run Tryz.prog w = .ok (.agg (bvs zeros4).toArray) w := by
  have hu : Tryz.prog.underlying 159 = some (.array 4096 5) := Tryz.underlying159
  obtain ⟨i, hi, _, hz1, _⟩ := info_parts info_byte
  have hs : (sizeOf 5).run Tryz.prog w = .ok 1 w := by simp only [sizeOf, typeInfo, Sem.run_bind, run_program, Result.andThen_ok, hi, Sem.run_pure, hz1]
  have hz := zero_val w
  generalize bvs zeros4 = cs at hz ⊢
  simp only [Instr.build, Sem.run_bind, hz, Result.andThen_ok, run_underlying hu, hs, Value.cells, Instr.fill, Sem.run_pure]
theorem run_load_page (w : World) (g : Nat) (L : List Nat) (h : Pg w g L) (hl : L.length = 4096) : (Instr.loadAt 159 (.pointer (some ⟨g, 0, none⟩))).run Tryz.prog w = .ok (.agg (bvs L).toArray) w := by
  have hi := info_page
  refine run_loadAt_mid w g 0 159 (bvs L) (.array 4096 5) (fun j v hj => ?_) Tryz.underlying159 rfl ?_
  · rw [Nat.zero_add, cell_of_row w g j _ _ _ h]
    simpa using hj
  · rw [bvs_length, hl]
    cases hq : Tryz.prog.info? 159 with
    | none => rw [hq] at hi; cases hi
    | some i =>
      rw [hq] at hi
      simp only [Option.map_some, Option.some.injEq, Prod.mk.injEq] at hi
      rw [Option.map_some, hi.2]
theorem wpList_load_page {w : World} {ops : Array Oper} {rest : List Oper} {o : Oper} {a : Act} {Q : Exit → Act → World → Prop} (hw : Region.wanted o (yielded ops a.tmps) = true) (x : Operand) (ho : o.op = .load 159 x) {g : Nat} {L : List Nat} (hx : a.eval x = .pointer (some ⟨g, 0, none⟩)) (h : Pg w g L) (hl : L.length = 4096)
    (hK : wpList Tryz.prog ops Q rest (a.put o.dst (.agg (bvs L).toArray)) w) : wpList Tryz.prog ops Q (o :: rest) a w := by
  refine wpList_step fun K hK' => ?_
  rw [if_pos hw]
  unfold Oper.wp execOp
  simp only [ho, hx, Sem.run_bind, Sem.run_pure, Result.andThen_ok, run_load_page w g L h hl]
  exact hK' _ _ hK
theorem wpList_build_page {w : World} {ops : Array Oper} {rest : List Oper} {o : Oper} {a : Act} {Q : Exit → Act → World → Prop} (hw : Region.wanted o (yielded ops a.tmps) = true) (ho : o.op = .build 159 #[])
    (hK : wpList Tryz.prog ops Q rest (a.put o.dst (.agg (bvs zeros4).toArray)) w) : wpList Tryz.prog ops Q (o :: rest) a w := by
  refine wpList_step fun K hK' => ?_
  rw [if_pos hw]
  unfold Oper.wp execOp
  have e : (Array.map (fun (p : Nat × Operand) => (p.1, a.eval p.2)) #[]) = #[] := by simp
  simp only [ho, e, Sem.run_bind, Sem.run_pure, Result.andThen_ok, run_build_page]
  exact hK' _ _ hK
theorem guard_page : Tryz.prog.eqGuardType Tryz.prog.depth 159 = false := by kernel_rfl
theorem wpList_eql_page {w : World} {ops : Array Oper} {rest : List Oper} {o : Oper} {a : Act} {Q : Exit → Act → World → Prop} (hw : Region.wanted o (yielded ops a.tmps) = true) (x y : Operand) {t' : TypeId} (ho : o.op = .binOp .eql 159 x y t') {L K : List Nat} {b : Bool} (hx : a.eval x = .agg (bvs L).toArray) (hy : a.eval y = .agg (bvs K).toArray) (hl : L.length = 4096) (hk : K.length = 4096) (hb : (L == K) = b)
    (hK : wpList Tryz.prog ops Q rest (a.put o.dst (.bool b)) w) : wpList Tryz.prog ops Q (o :: rest) a w := by
  refine wpList_step fun K' hK' => ?_
  rw [if_pos hw]
  unfold Oper.wp execOp
  have e := equal_bytes w 9998 L K hl hk
  simp only [ho, hx, hy, Sem.run_bind, Sem.run_pure, Result.andThen_ok, run_eqGuard_agg w _ _ _ _ _ _ guard_page, run_eql_struct, e, hb]
  exact hK' _ _ hK
end Go.Proofs.YtlplbbnicfeoaaaGreat
/- layWithin: zeros laid into one page. Own work. -/
namespace Go.Proofs.YtlplbbnicfeoaaaGreat
open Go.RowKit Go.Maps
theorem allZ_get {zs : List Nat} (h : allZ zs = true) (i : Nat) : zs.getD i 0 = 0 := by
  by_cases hi : i < zs.length
  · have := List.all_eq_true.1 h _ (List.getElem_mem hi)
    rw [List.getD_eq_getElem?_getD, List.getElem?_eq_getElem hi]
    simpa using this
  · rw [List.getD_eq_getElem?_getD, List.getElem?_eq_none (by omega)]; rfl
theorem put_zero {M : Nat → Nat} {k r : Nat} {zs : List Nat} (hl : r + zs.length ≤ 4096) (hz : allZ zs = true) (h : isZ M k) : putAt M (k * 4096 + r) zs = M := by
  funext p
  by_cases hp : k * 4096 + r ≤ p ∧ p < k * 4096 + r + zs.length
  · rw [show putAt M (k * 4096 + r) zs p = zs.getD (p - (k * 4096 + r)) 0 from if_pos hp, allZ_get hz]
    have := h (p - k * 4096) (by omega)
    rw [show k * 4096 + (p - k * 4096) = p by omega] at this
    exact this.symm
  · exact if_neg hp
/-- a page that has become all 0 is taken out -/
theorem Held.dropped {w w' : World} {B : Nat} {T : Nat → Option Nat} {M : Nat → Nat} {k o g : Nat} {zs : List Nat} (h : Held w B T M) (hk : T k = some g) (hz : ∀ z ∈ zs, z < 256) (hl : o + zs.length ≤ 4096) {c : Nat} (hcc : cnt M = c + 1)
    (hm : MapT w' B (upd T k none) c) (hK : Keeps (fun j => j = g ∨ j = B) w w') (hn : isZ (putAt M (k * 4096 + o) zs) k) : Held w' B (upd T k none) (putAt M (k * 4096 + o) zs) := by
  obtain ⟨p1, p2, p3, p4, p5⟩ := h.2
  have hz1 : nz M k = true := nz_true (p1 k g hk).2
  have hz2 : nz (putAt M (k * 4096 + o) zs) k = false := nz_false.2 hn
  have hc : cnt (putAt M (k * 4096 + o) zs) = c := by
    have := cnt_one (M := M) (M' := putAt M (k * 4096 + o) zs) (h.low hk) (fun j hj => by unfold nz; rw [page_put_other M hl hj])
    rw [hz1, hz2, hcc] at this
    simpa using this
  refine ⟨by rw [hc]; exact hm, fun k' g' e => ?_, fun k' e => ?_, fun k1 k2 g' e1 e2 => ?_, putAt_small p4 hz, fun k' hk' => ?_⟩
  · by_cases hk' : k' = k
    · subst hk'
      rw [upd_same] at e
      cases e
    · rw [upd_other _ _ hk'] at e
      rw [page_put_other M hl hk']
      exact ⟨((p1 k' g' e).1).keeps hK (fun e' => e'.elim (fun e' => hk' (p3 k' k g' e (by rw [hk, e']))) (h.apart e)), fun hz' => (p1 k' g' e).2 (isZ_congr (fun i hi => (put_other M hl hk' i hi).symm) hz')⟩
  · by_cases hk' : k' = k
    · subst hk'
      exact hn
    · rw [upd_other _ _ hk'] at e
      exact isZ_congr (put_other M hl hk') (p2 k' e)
  · have h1 : k1 ≠ k := fun e => by rw [e, upd_same] at e1; cases e1
    have h2 : k2 ≠ k := fun e => by rw [e, upd_same] at e2; cases e2
    rw [upd_other _ _ h1] at e1
    rw [upd_other _ _ h2] at e2
    exact p3 k1 k2 g' e1 e2
  · by_cases h1 : k' = k
    · rw [h1, upd_same]
    · rw [upd_other _ _ h1]
      exact p5 k' hk'
theorem page_is_zero {M : Nat → Nat} {k : Nat} : (pageOf M k == zeros4) = !nz M k := by
  cases e : nz M k with
  | false =>
    rw [← page_zero (nz_false.1 e)]
    simp
  | true =>
    have : pageOf M k ≠ zeros4 := fun h => by
      have h2 : isZ M k := fun i hi => by
        have := pageOf_get M k i hi
        rw [h, zeros4, List.getElem?_replicate, if_pos hi] at this
        exact (Option.some.inj this).symm
      rw [nz_false.2 h2] at e
      cases e
    simpa using this
set_option maxRecDepth 100000 in
set_option maxHeartbeats 4000000 in
theorem layWithin_none {w : World} {B : Nat} {T : Nat → Option Nat} {M : Nat → Nat} {k r b o c n : Nat} {zs : List Nat} (h : Held w B T M) (hk : T k = none) (hkb : k < 1048576) (hr : r < 4096) (hs : Sl w (.slice (some ⟨b, o, none⟩) n c) zs) (hl : r + zs.length ≤ 4096) (hz : allZ zs = true) :
    Calls Tryz.prog 74 #[.map (some B), .int .u64 ((k * 4096 + r : Nat) : Int), .slice (some ⟨b, o, none⟩) n c] w (LaidPost w B T (putAt M (k * 4096 + r) zs)) := by
  rw [put_zero hl hz (h.2.2.1 k hk)]
  have HH : Hid (Held w B T M) := h
  have hlk := h.1.look_none hk (by omega)
  have HZ : Hid (Calls Tryz.prog 89 #[.slice (some ⟨b, o, none⟩) n c] w fun e w' => e = .returned (.bool true) ∧ w' = w) := (zeros_any hs).mono fun e w' h => by rw [hz] at h; exact h
  obtain ⟨a, ha⟩ : ∃ a, a = k * 4096 + r := ⟨_, rfl⟩
  have q1 : (a : Int) / 4096 = (k : Int) := by omega
  have hal : a < 4294967296 := by omega
  rw [← ha]
  clear h hs ha hk hl hz
  go_enter Tryz.func74, Tryz.ntmps74
  go_wp2_with (first | (go_at_call 89; refine HZ.out.mono ?_; rintro e w' ⟨rfl, hw⟩; have hw := hw.symm; subst hw))
  refine bodyPost_ret (results_none rfl _ _ _) rfl ?_
  exact ⟨rfl, T, HH.out, Keeps.refl _ _, Grows.refl _ _⟩
set_option maxRecDepth 100000 in
set_option maxHeartbeats 4000000 in
theorem layWithin_zero {w : World} {B : Nat} {T : Nat → Option Nat} {M : Nat → Nat} {k r b o c g n : Nat} {zs : List Nat} (h : Held w B T M) (hk : T k = some g) (hkb : k < 1048576) (hr : r < 4096) (hs : Sl w (.slice (some ⟨b, o, none⟩) n c) zs) (hn : n = zs.length) (hl : r + zs.length ≤ 4096) (hz : allZ zs = true) :
    Calls Tryz.prog 74 #[.map (some B), .int .u64 ((k * 4096 + r : Nat) : Int), .slice (some ⟨b, o, none⟩) n c] w (LaidPost w B T (putAt M (k * 4096 + r) zs)) := by
  have HH : Hid (Held w B T M) := h
  have HS : Hid (Sl w (.slice (some ⟨b, o, none⟩) n c) zs) := hs
  have hlk := h.1.look_some hk (by omega)
  have HP : Hid (Pg w g (pageOf M k)) := (h.2.1 k g hk).1
  have HZ : Hid (Calls Tryz.prog 89 #[.slice (some ⟨b, o, none⟩) n c] w fun e w' => e = .returned (.bool true) ∧ w' = w) := (zeros_any hs).mono fun e w' h => by rw [hz] at h; exact h
  obtain ⟨c', hc'⟩ : ∃ c', cnt M = c' + 1 := by
    have h1 := cnt_one (M := M) (M' := putAt M (k * 4096) (List.replicate 4096 0)) (k := k) (h.low hk) (fun j hj => by unfold nz; rw [show k * 4096 = k * 4096 + 0 from rfl, page_put_other M (by rw [List.length_replicate]; omega) hj])
    rw [nz_true (h.2.1 k g hk).2] at h1
    have h2 : isZ (putAt M (k * 4096) (List.replicate 4096 0)) k := fun i hi => by
      rw [putAt_in _ _ _ _ (by rw [List.length_replicate]; exact hi)]
      exact allZ_get (List.all_eq_true.2 (fun z hz => by rw [List.eq_of_mem_replicate hz]; rfl)) i
    rw [nz_false.2 h2] at h1
    exact ⟨_, by simpa using h1.symm⟩
  have HCc : Hid (cnt M = c' + 1) := hc'
  obtain ⟨a, ha⟩ : ∃ a, a = k * 4096 + r := ⟨_, rfl⟩
  have HA : Hid (a = k * 4096 + r) := ha
  have q1 : (a : Int) / 4096 = (k : Int) := by omega
  have q2 : (a : Int) % 4096 = (r : Int) := by omega
  have hal : a < 4294967296 := by omega
  rw [← ha]
  have HK : Hid (T k = some g) := hk
  have HR : Hid (r + zs.length ≤ 4096) := hl
  have HNz : Hid (n = zs.length) := hn
  have HL : Hid (r + n ≤ (pageOf M k).length) := by rw [pageOf_length, hn]; exact hl
  have HMn : Hid (n = min zs.length (4096 - r)) := by show n = _; omega
  have HE : Hid ((pageOf M k).take r ++ zs.take n ++ (pageOf M k).drop (r + n) = pageOf (putAt M a zs) k) := by
    show _ = _
    rw [hn, List.take_length, ha]; exact page_put_same M k r zs hl
  have HKb : Hid (k < 4503599627370496) := (by omega : k < 4503599627370496)
  have hslc := fun W => slice_page W g r hr
  obtain ⟨bz, hbz⟩ : ∃ bz, nz (putAt M a zs) k = bz := ⟨_, rfl⟩
  have HBz : Hid (nz (putAt M a zs) k = bz) := hbz
  have HEq : Hid ((pageOf (putAt M a zs) k == zeros4) = !bz) := by show _ = _; rw [page_is_zero, hbz]
  clear h hs ha hk hn hl hz hbz hc'
  cases bz with
  | true =>
    go_enter Tryz.func74, Tryz.ntmps74
    go_wp2_with (first | (go_at_call 89; refine HZ.out.mono ?_; rintro e w' ⟨rfl, hw⟩; have hw := hw.symm; subst hw) | (refine wpList_copy_mid rfl (.tmp 31) (.tmp 32) rfl rfl rfl HP.out n HMn.out HS.out HL.out ?_; intro w1 h1 k1; rw [HE.out] at h1; have HG1 : Hid (Pg w1 g (pageOf (putAt M a zs) k)) := h1; have HK1 : Hid (Keeps (fun j => j = g) w w1) := k1; clear h1 k1) | (refine wpList_load_page rfl (.tmp 37) rfl rfl HG1.out (pageOf_length _ _) ?_) | (refine wpList_build_page rfl rfl ?_) | (refine wpList_eql_page rfl (.tmp 38) (.tmp 39) rfl rfl rfl (pageOf_length _ _) List.length_replicate HEq.out ?_))
    go_end0
    have hg := HG1.out
    rw [← HE.out, HNz.out, List.take_length] at hg
    have hb := HBz.out
    rw [HA.out] at hb ⊢
    exact ⟨rfl, T, HH.out.wrote HK.out HS.out.small HR.out hg HK1.out (fun hz => by rw [nz_false.2 hz] at hb; cases hb), HK1.out.mono (fun i _ e => .inr ⟨k, by rw [e]; exact HK.out⟩), Grows.refl _ _⟩
  | false =>
    have HM1 : Hid (∀ w1, Keeps (fun j => j = g) w w1 → MapT w1 B T (c' + 1)) := fun w1 hk => by rw [← HCc.out]; exact HH.out.1.keeps hk (fun e => HH.out.apart HK.out e.symm)
    go_enter Tryz.func74, Tryz.ntmps74
    go_wp2_with (first | (go_at_call 89; refine HZ.out.mono ?_; rintro e w' ⟨rfl, hw⟩; have hw := hw.symm; subst hw) | (refine wpList_copy_mid rfl (.tmp 31) (.tmp 32) rfl rfl rfl HP.out n HMn.out HS.out HL.out ?_; intro w1 h1 k1; rw [HE.out] at h1; have HG1 : Hid (Pg w1 g (pageOf (putAt M a zs) k)) := h1; have HK1 : Hid (Keeps (fun j => j = g) w w1) := k1; clear h1 k1) | (refine wpList_load_page rfl (.tmp 37) rfl rfl HG1.out (pageOf_length _ _) ?_) | (refine wpList_build_page rfl rfl ?_) | (refine wpList_eql_page rfl (.tmp 38) (.tmp 39) rfl rfl rfl (pageOf_length _ _) List.length_replicate HEq.out ?_) | (refine wpList_del_page rfl (.tmp 42) (.tmp 43) rfl rfl rfl (HM1.out w1 HK1.out) HK.out HKb.out ?_; intro w2 h2 k2; have HM2 : Hid (MapT w2 B (upd T k none) c') := h2; have HK2 : Hid (Keeps (fun j => j = B) w1 w2) := k2; clear h2 k2))
    go_end0
    have hb := HBz.out
    rw [HA.out] at hb ⊢
    have hk2 : Keeps (fun j => j = g ∨ j = B) w w2 := (HK1.out.mono (fun _ _ e => .inl e)).trans HK2.out (fun _ _ e => .inr e)
    refine ⟨rfl, _, HH.out.dropped HK.out HS.out.small HR.out HCc.out HM2.out hk2 (nz_false.1 hb), hk2.mono (fun i _ e => e.elim (fun e => .inr ⟨k, by rw [e]; exact HK.out⟩) .inl), fun k' g' e => ?_⟩
    by_cases hk' : k' = k
    · rw [hk', upd_same] at e
      cases e
    · rw [upd_other _ _ hk'] at e
      exact .inl e
theorem layWithin_any {w : World} {B : Nat} {T : Nat → Option Nat} {M : Nat → Nat} {a b o c n : Nat} {zs : List Nat} (h : Held w B T M) (ha : a < 4294967296) (hs : Sl w (.slice (some ⟨b, o, none⟩) n c) zs) (hn : n = zs.length) (hl : a % 4096 + zs.length ≤ 4096) (hbw : b < w.heap.size) (hbB : b ≠ B) :
    Calls Tryz.prog 74 #[.map (some B), .int .u64 (a : Int), .slice (some ⟨b, o, none⟩) n c] w (LaidPost w B T (putAt M a zs)) := by
  obtain ⟨k, r, rfl, hr, hk⟩ : ∃ k r, a = k * 4096 + r ∧ r < 4096 ∧ k < 1048576 := ⟨a / 4096, a % 4096, by omega, by omega, by omega⟩
  rw [show (k * 4096 + r) % 4096 = r by omega] at hl
  cases hz : allZ zs with
  | false =>
    cases hT : T k with
    | none => exact layWithin_new h hT hk hr hs hn hl hz hbw hbB
    | some g => exact layWithin_old h hT hk hr hs hn hl hz
  | true =>
    cases hT : T k with
    | none => exact layWithin_none h hT hk hr hs hl hz
    | some g => exact layWithin_zero h hT hk hr hs hn hl hz
end Go.Proofs.YtlplbbnicfeoaaaGreat
/- lay: bytes laid down over pages. Own work. -/
namespace Go.Proofs.YtlplbbnicfeoaaaGreat
open Go.RowKit Go.Maps
/-- where the loop of lay stands: i bytes are laid, the rest is read at v -/
def LayAt (w wr : World) (B : Nat) (T : Nat → Option Nat) (M : Nat → Nat) (a : Nat) (zs : List Nat) (v : Value) (i : Nat) : Prop :=
  ∃ T', Held wr B T' (putAt M a (zs.take i)) ∧ Keeps (Foot B T) w wr ∧ Grows w.heap.size T T' ∧ Sl wr v (zs.drop i)
theorem take_add (zs : List Nat) (i n : Nat) : zs.take i ++ (zs.drop i).take n = zs.take (i + n) := by rw [List.take_add]
theorem lay_step {w wr : World} {B : Nat} {T : Nat → Option Nat} {M : Nat → Nat} {a b o c m i n : Nat} {zs : List Nat} (h : LayAt w wr B T M a zs (.slice (some ⟨b, o, none⟩) m c) i) (hm : m = zs.length - i) (hi : i ≤ zs.length) (ha : a + zs.length ≤ 4294967296) (hn : n ≤ m) (hp : 0 < n) (hpg : (a + i) % 4096 + n ≤ 4096) (hb : ¬ Foot B T b) (hbw : b < w.heap.size) :
    Calls Tryz.prog 74 #[.map (some B), .int .u64 ((a + i : Nat) : Int), .slice (some ⟨b, o, none⟩) n c] wr fun e w' => e = .returned (.tuple #[]) ∧ Hid (∀ v', (∀ W, Sl W (.slice (some ⟨b, o, none⟩) m c) (zs.drop i) → Sl W v' (zs.drop (i + n))) → LayAt w w' B T M a zs v' (i + n)) := by
  obtain ⟨T', hH, hK, hG, hS⟩ := h
  have hl : (zs.drop i).length = m := by rw [List.length_drop, hm]
  have hS' : Sl wr (.slice (some ⟨b, o, none⟩) n c) ((zs.drop i).take n) := by
    rw [← hl] at hS
    exact hS.front n (by omega)
  have hbf : ¬ Foot B T' b := fun hf => hb (hG.foot hf hbw)
  have htl : ((zs.drop i).take n).length = n := by rw [List.length_take, hl]; omega
  refine (layWithin_any hH (a := a + i) (by omega) hS' htl.symm (by rw [htl]; exact hpg) (Nat.lt_of_lt_of_le hbw hK.size) (fun e => hbf (.inl e))).mono ?_
  rintro e w' ⟨rfl, T2, h2, k2, g2⟩
  refine ⟨rfl, fun v' hv => ⟨T2, ?_, hK.trans k2 (fun j hj hf => hG.foot hf hj), hG.trans g2 hK.size, hv w' (hS.keeps k2 (fun j e => by cases e; exact hbf))⟩⟩
  have e1 : a + i = a + (zs.take i).length := by rw [List.length_take]; omega
  rw [e1, putAt_append, take_add] at h2
  exact h2
theorem tail_sl {b o m c n i : Nat} {zs : List Nat} (hm : m = zs.length - i) (hn : n ≤ m) (W : World) (h : Sl W (.slice (some ⟨b, o, none⟩) m c) (zs.drop i)) : Sl W (.slice (some ⟨b, if c = n then o else o + n, none⟩) (m - n) (c - n)) (zs.drop (i + n)) := by
  have hl : (zs.drop i).length = m := by rw [List.length_drop, hm]
  have hl2 : (zs.drop (i + n)).length = m - n := by rw [List.length_drop]; omega
  obtain ⟨ao, cap, e, h1, h2, h3, h4, h5⟩ := h
  cases e
  refine ⟨_, c - n, by rw [hl2], by rw [hl2]; omega, by omega, fun z hz => h3 z (by rw [← List.drop_drop] at hz; exact List.mem_of_mem_drop hz), by simp, fun j hj => ?_⟩
  have hc : c ≠ n := by omega
  obtain ⟨b', o', e', hcell⟩ := h5 (n + j) (by omega)
  cases e'
  refine ⟨b, o + n, by rw [if_neg hc], ?_⟩
  rw [Nat.add_assoc, hcell]
  congr 3
  simp only [List.getD_eq_getElem?_getD, List.getElem?_drop]
  congr 2
  omega
theorem LayAt.drew {w wr : World} {B : Nat} {T : Nat → Option Nat} {M : Nat → Nat} {a : Nat} {zs : List Nat} {v : Value} {i : Nat} (h : LayAt w wr B T M a zs v i) : LayAt w wr.drew B T M a zs v i := by
  obtain ⟨T', h1, h2, h3, h4⟩ := h
  exact ⟨T', h1, h2.drew, h3, h4⟩
set_option maxRecDepth 100000 in
set_option maxHeartbeats 4000000 in
theorem lay_some {w : World} {B : Nat} {T : Nat → Option Nat} {M : Nat → Nat} {a b o c : Nat} {zs : List Nat} (h : Held w B T M) (ha : a + zs.length ≤ 4294967296) (hs : Sl w (.slice (some ⟨b, o, none⟩) zs.length c) zs) (hb : ¬ Foot B T b) (hbw : b < w.heap.size) :
    Calls Tryz.prog 44 #[.map (some B), .int .u64 (a : Int), .slice (some ⟨b, o, none⟩) zs.length c] w (LaidPost w B T (putAt M a zs)) := by
  have HL0 : Hid (LayAt w w B T M a zs (.slice (some ⟨b, o, none⟩) zs.length c) 0) := ⟨T, by rw [List.take_zero, putAt_nil]; exact h, Keeps.refl _ _, Grows.refl _ _, hs⟩
  have HB : Hid (¬ Foot B T b ∧ b < w.heap.size) := ⟨hb, hbw⟩
  have hcap : zs.length ≤ c ∧ c ≤ maxLen := by obtain ⟨ao, cap, e, h1, h2, _⟩ := hs; cases e; exact ⟨h1, h2⟩
  clear h hs hb hbw
  unfold maxLen at hcap
  go_enter Tryz.func44, Tryz.ntmps44
  go_wp2_with fail
  go_loopw [1, 2] (fun x v wr => ∃ i o' m c' : Nat, i ≤ zs.length ∧ m ≤ c' ∧ c' ≤ 9223372036854775807 ∧ x = .int .u64 ((a + i : Nat) : Int) ∧ v = .slice (some ⟨b, o', none⟩) m c' ∧ Hid (m = zs.length - i) ∧ Hid (LayAt w wr B T M a zs (.slice (some ⟨b, o', none⟩) m c') i)) (fun _ v _ => match v with | .slice _ m _ => m | _ => 0)
  case atStart => exact ⟨0, o, zs.length, c, by omega, by omega, by omega, rfl, rfl, (rfl : _ = _), HL0⟩
  case round =>
    obtain ⟨i, o', m, c', hi, hmc, hc', rfl, rfl, HM, HL⟩ := hrel
    by_cases hlt : 0 < m
    · obtain ⟨n, hn⟩ : ∃ n, n = min m (4096 - (a + i) % 4096) := ⟨_, rfl⟩
      have HW : Hid (Calls Tryz.prog 73 #[.int .u64 ((a + i : Nat) : Int), .int .i64 (m : Int)] wr fun e w' => e = .returned (.int .i64 (n : Int)) ∧ w' = wr) := by rw [hn]; exact within_any (by omega) wr
      have n1 : n ≤ m := by omega
      have n2 : 0 < n := by omega
      have HS : Hid (Calls Tryz.prog 74 #[.map (some B), .int .u64 ((a + i : Nat) : Int), .slice (some ⟨b, o', none⟩) n c'] wr fun e w' => e = .returned (.tuple #[]) ∧ Hid (∀ v', (∀ W, Sl W (.slice (some ⟨b, o', none⟩) m c') (zs.drop i) → Sl W v' (zs.drop (i + n))) → LayAt w w' B T M a zs v' (i + n))) := lay_step HL.out HM.out hi ha n1 n2 (by omega) HB.out.1 HB.out.2
      have hab : a + i + n ≤ 4294967296 := by have := HM.out; omega
      have hnm : i + n ≤ zs.length := by have := HM.out; omega
      clear hn
      go_wp2_with (first | (go_at_call 73; refine HW.out.mono ?_; rintro e w' ⟨rfl, hw⟩; have hw := hw.symm; subst hw) | (go_at_call 74; refine HS.out.mono ?_; rintro e w2 ⟨rfl, HS2⟩))
      go_region
      go_wp2_with fail
      go_roundw
      case rel => exact ⟨i + n, if c' = n then o' else o' + n, m - n, c' - n, hnm, by omega, by omega, by go_num, by split <;> rfl, (by have := HM.out; omega : m - n = zs.length - (i + n)), (HS2.out _ (tail_sl HM.out n1)).drew⟩
      case measure => simp; omega
    · have HE : Hid (i = zs.length) := (by have := HM.out; omega : i = zs.length)
      go_wp2_with fail
      go_end0
      obtain ⟨T', h1, h2, h3, _⟩ := HL.out
      rw [HE.out, List.take_length] at h1
      exact ⟨rfl, T', h1, h2, h3⟩
end Go.Proofs.YtlplbbnicfeoaaaGreat
