/- WordCuts: of a shorter beginning the first thing that does not lie in it whole is refused. Own work. -/
import Derived.Test.YtlcjdofciogfaaaDoorCut2
import Derived.Test.YtlcjdofciogfaaaDoorTakeD
import Derived.Deep.RegionHeld3
namespace Go.Proofs.YtlcjdofciogfaaaDoor
open Go.RowKit
def firstC : OpV := ⟨2, 0, 7, 0, .slice none 0 0, [], ⟨#[]⟩⟩
theorem firstC_lay : layF [] firstC = ([7, 0], 0) := by decide
/-- where the first loop stands -/
def Ct (w wr : World) (p : Nat) (vs ve : Value) (os : List OpV) (k : Nat) : Prop :=
  ∃ v zs why ss es, Fr w wr p v vs ve zs why (firstC :: ss) (2 :: es) ∧ LaidE [] (firstC :: ss) (2 :: es) zs ∧ zs.length ≤ 2 + total (os.take k) ∧ ss.length ≤ k ∧ (∀ o ∈ ss, Sl w o.pv o.ps ∧ o.n < 18446744073709551616)
theorem ct_not {w wr : World} {p : Nat} {vs ve : Value} {os : List OpV} {k : Nat} {v : Value} {zs : List Nat} {why : Int} {op : OpV} (hw : Wr wr p v zs why p) (hy : why ≠ 0) (ho : Sl wr op.pv op.ps) (h : Ct w wr p vs ve os k) (hk : k < os.length) :
    Calls Tryd.prog 16 #[.pointer (some ⟨p, 0, none⟩), .agg op.vals] wr fun e w' => e = .returned (.bool false) ∧ Hid (Ct w w' p vs ve os (k + 1)) := by
  refine (laid_not hw hy ho).mono ?_
  rintro e w' ⟨rfl, X, rfl⟩
  obtain ⟨v, zs, why, ss, es, h1, h2, h3, h4, h5⟩ := h
  exact ⟨rfl, ⟨v, zs, why, ss, es, h1.alloc X, h2, by rw [total_take_succ hk]; omega, by omega, h5⟩⟩
theorem ct_laid {w wr : World} {p : Nat} {vs ve : Value} {os : List OpV} {k : Nat} {v : Value} {zs : List Nat} {ss : List OpV} {es : List Nat} {op : OpV} (ht : Tab w) (hF : Fr w wr p v vs ve zs 0 (firstC :: ss) (2 :: es)) (hL : LaidE [] (firstC :: ss) (2 :: es) zs) (hz : zs.length ≤ 2 + total (os.take k)) (hl : ss.length ≤ k) (hS : ∀ o ∈ ss, Sl w o.pv o.ps ∧ o.n < 18446744073709551616)
    (htot : total os ≤ 2147483647) (hk : k < os.length) (hop : op = os[k]) (ho : Sl wr op.pv op.ps) (hn : op.n < 18446744073709551616) :
    Calls Tryd.prog 16 #[.pointer (some ⟨p, 0, none⟩), .agg op.vals] wr fun e w' => e = .returned (.bool ((layF zs op).2 == 0)) ∧
      Hid ((layF zs op).2 ≠ 0 → Ct w w' p vs ve os (k + 1)) ∧ Hid ((layF zs op).2 = 0 → (layF zs op).1.length ≤ zs.length → Ct w w' p vs ve os (k + 1)) ∧ ∃ v', Hid (Fr w w' p v' vs ve (layF zs op).1 (layF zs op).2 (firstC :: ss) (2 :: es)) ∧ Hid ((layF zs op).1.length ≤ 2 + total (os.take (k + 1))) := by
  have hc := cost_le hk
  rw [← hop] at hc
  unfold cost at hc
  have ht2 := total_take_le os k
  have hw := hF.1
  have hB := hF.2.2.2.1
  refine (laid_any hw ⟨ho, hn, by omega, by omega⟩ (by omega) (Nat.le_of_lt hw.lt) (ht.below hB)).mono ?_
  rintro e w' ⟨rfl, v', h1, h2, h3⟩
  have hF' := hF.laid h1 h2 h3
  obtain ⟨B, hB1, hB2⟩ := lay_grow zs op
  have hlen : (layF zs op).1.length ≤ 2 + total (os.take (k + 1)) := by
    rw [hB1, List.length_append, total_take_succ hk, ← hop]
    unfold cost
    omega
  refine ⟨rfl, fun hne => ?_, fun h0 hle => ?_, v', hF', hlen⟩
  · have e1 := lay_refused hne
    rw [e1] at hF'
    exact ⟨v', zs, _, ss, es, hF', hL, by rw [total_take_succ hk]; omega, by omega, hS⟩
  · have e1 : (layF zs op).1 = zs := by
      rw [hB1, List.length_append] at hle
      have : B = [] := List.eq_nil_of_length_eq_zero (by omega)
      rw [hB1, this, List.append_nil]
    rw [e1] at hF'
    exact ⟨v', zs, _, ss, es, hF', hL, by rw [total_take_succ hk]; omega, by omega, hS⟩
theorem ct_taken {w w4 : World} {p : Nat} {v vs ve : Value} {os : List OpV} {k : Nat} {zs Z : List Nat} {ss : List OpV} {es : List Nat} {op : OpV} (hZ : layF zs op = (Z, 0)) (hF : Fr w w4 p v vs ve Z 0 ((firstC :: ss) ++ [op]) ((2 :: es) ++ [Z.length])) (hL : LaidE [] (firstC :: ss) (2 :: es) zs) (hz : Z.length ≤ 2 + total (os.take (k + 1))) (hl : ss.length ≤ k) (hS : ∀ o ∈ ss, Sl w o.pv o.ps ∧ o.n < 18446744073709551616) (ho : Sl w op.pv op.ps ∧ op.n < 18446744073709551616) : Ct w w4 p vs ve os (k + 1) := by
  have hs := LaidE.snoc (o := op) hL (by rw [hZ])
  rw [hZ] at hs
  refine ⟨v, Z, 0, ss ++ [op], es ++ [Z.length], hF, hs, hz, by simp; omega, fun o hm => ?_⟩
  rcases List.mem_append.1 hm with hm | hm
  · exact hS o hm
  · obtain rfl := List.mem_singleton.1 hm
    exact ho
theorem ct_start {w wA w2 : World} {v2 : Value} {os : List OpV} (hw : Wr w2 wA.heap.size v2 [7, 0] 0 wA.heap.size) (hB : Below w.heap.size w w2) (hA : w.heap.size ≤ wA.heap.size) :
    Ct w ((w2.alloc (Obj.cells #[.int .i64 2, .int .i64 0, .int .u64 7, .int .i64 0, .slice none 0 0, .string ⟨#[]⟩] 36)).alloc (Obj.cells #[.int .i64 2] 3)) wA.heap.size (.slice (some ⟨w2.heap.size, 0, none⟩) 1 1) (.slice (some ⟨w2.heap.size + 1, 0, none⟩) 1 1) os 0 := by
  have hp := hw.lt
  have hb := hB.size
  refine ⟨v2, _, 0, [], [], ⟨(hw.alloc _).alloc _, ?_, ?_, (hB.alloc hB.size _).alloc (by simp; omega) _, fun g hg => ?_, fun g hg => ?_, hA, by simp, by simp⟩, ⟨by rw [firstC_lay], by rw [firstC_lay]; rfl, by rw [firstC_lay]; rfl⟩, by simp, Nat.le_refl _, fun _ h => (by cases h)⟩
  · have hS : Steps (w2.alloc (Obj.cells #[.int .i64 2, .int .i64 0, .int .u64 7, .int .i64 0, .slice none 0 0, .string ⟨#[]⟩] 36)) w.heap.size (.slice (some ⟨w2.heap.size, 0, none⟩) 1 1) [firstC] := ⟨rfl, .inr ⟨w2.heap.size, 1, _, rfl, hB.size, heap_alloc_new w2 _, Nat.le_refl _, by simp [maxLen], rfl, rfl⟩⟩
    exact hS.keeps (Keeps.alloc (S := fun _ => False) _ _) (fun _ _ h => h)
  · have hs : (w2.alloc (Obj.cells #[.int .i64 2, .int .i64 0, .int .u64 7, .int .i64 0, .slice none 0 0, .string ⟨#[]⟩] 36)).heap.size = w2.heap.size + 1 := by simp
    have hn := heap_alloc_new (w2.alloc (Obj.cells #[.int .i64 2, .int .i64 0, .int .u64 7, .int .i64 0, .slice none 0 0, .string ⟨#[]⟩] 36)) (Obj.cells #[.int .i64 2] 3)
    rw [hs] at hn
    exact ⟨rfl, .inr ⟨w2.heap.size + 1, 1, _, rfl, by omega, hn, Nat.le_refl _, by simp [maxLen], rfl, rfl⟩⟩
  · have hg' : w2.heap.size = g := Option.some.inj hg
    exact ⟨by omega, fun e => by have := wr_own_lt hw e; omega⟩
  · have hg' : w2.heap.size + 1 = g := Option.some.inj hg
    exact ⟨by omega, fun e => by have := wr_own_lt hw e; omega, fun e => by have e' : w2.heap.size = g := Option.some.inj e; omega⟩
set_option maxRecDepth 100000 in
set_option maxHeartbeats 40000000 in
theorem wcuts_any {w : World} {v : Value} {os : List OpV} {at_ : Int} (hv : Scr w v os) (ht : Tab w) :
    Calls Tryd.prog 5 #[v, .int .i64 at_] w fun e w' => e = .returned (.bool true) ∧ Below w.heap.size w w' := by
  have HV : Hid (Scr w v os) := hv
  have HBy : Hid (Calls Tryd.prog 6 #[v] w fun e w' => ∃ r : Bool, e = .returned (.bool r) ∧ (r = false → total os ≤ 2147483647) ∧ Below w.heap.size w w') := beyond_any hv
  obtain ⟨ao, cap, rfl, hcap, hmax, hcells⟩ := hv
  clear hcells
  unfold maxLen at hmax
  have HT : Hid (Tab w) := ht
  clear ht
  go_enter Tryd.func5, Tryd.ntmps5
  go_wp2_with fail
  refine HBy.out.mono ?_
  rintro e wA ⟨r, rfl, htot, hbA⟩
  cases r with
  | true =>
    go_wp2_with fail
    go_ret
    exact ⟨rfl, hbA⟩
  | false =>
    have HTot : Hid (total os ≤ 2147483647) := htot rfl
    have hol : os.length ≤ 2147483647 := Nat.le_trans (len_le_total os) HTot.out
    clear htot
    have HBA : Hid (Below w.heap.size w wA) := hbA
    have HEn : Hid (Enters Tryd.prog 16) := enters_of Tryd.func16 (by kernel_rfl) rfl
    clear hbA HBy
    go_wp2_with fail
    refine (newWriter_any wA).mono ?_
    rintro e w1 ⟨rfl, hw1, hb1⟩
    have HC : Hid (Calls Tryd.prog 16 #[.pointer (some ⟨wA.heap.size, 0, none⟩), .agg firstC.vals] w1 (LaidPost w1 wA.heap.size wA.heap.size (.slice none 0 0) [] firstC)) := laid_any hw1 ⟨nil_sl _, by decide, by decide, by decide⟩ (by decide) (Nat.le_of_lt hw1.lt) (HT.out.below (HBA.out.trans (hb1.mono HBA.out.size)))
    have HB1 : Hid (Below w.heap.size w w1) := HBA.out.trans (hb1.mono HBA.out.size)
    clear hw1 hb1
    go_wp2_with fail
    refine HC.out.mono ?_
    rintro e w2 ⟨rfl, v2, hw2, hk2, _⟩
    rw [firstC_lay] at hw2 ⊢
    have HW2 : Hid (Wr w2 wA.heap.size v2 [7, 0] 0 wA.heap.size) := hw2
    have HB2 : Hid (Below w.heap.size w w2) := HB1.out.trans (hk2.below HB1.out.size (fun i _ hf => by
      rcases hf with hf | hf
      · rw [hf]; exact HBA.out.size
      · cases hf))
    clear hw2 hk2 HC
    go_wp2_with fail
    refine (len_any HW2.out).mono ?_
    rintro e w' ⟨rfl, hw⟩
    rw [hw]
    clear hw w'
    go_wp2_with fail
    go_loopw [6, 7, 8] (fun s t i wr => ∃ k : Nat, k ≤ os.length ∧ i = .int .i64 (k : Int) ∧ Hid (Ct w wr wA.heap.size s t os k)) (fun _ _ i _ => os.length - (intOf i).toNat)
    case atStart => exact ⟨0, Nat.zero_le _, rfl, ct_start HW2.out HB2.out HBA.out.size⟩
    case round =>
      obtain ⟨k, hk, rfl, HS⟩ := hrel
      by_cases hlt : k < os.length
      · have HS' := HS.out
        obtain ⟨v, zs, why, ss, es, hF0, hL, hz, hl, hS⟩ := HS'
        have hF : Fr w wr.drew wA.heap.size v u6 u7 zs why (firstC :: ss) (2 :: es) := hF0.keeps ⟨rfl, rfl, rfl, Nat.le_refl _, fun _ _ _ => rfl⟩
        have HSd : Hid (Ct w wr.drew wA.heap.size u6 u7 os k) := ⟨v, zs, why, ss, es, hF, hL, hz, hl, hS⟩
        have hw := hF.1
        obtain ⟨b, of, op, hao, hop, hsl, hnn, c0, c1, c2, c3, c4, c5⟩ := HV.out.at hF0.2.2.2.1 k hlt
        have hsld : Sl wr.drew op.pv op.ps := by
          obtain ⟨_, _, op', _, hop', hsl', _⟩ := HV.out.at hF.2.2.2.1 k hlt
          rw [hop, ← hop']; exact hsl'
        subst hao
        obtain ⟨ge, ce, hve, hgl, hgb, hec1, hec2⟩ := hF.2.2.1.form (by simp)
        have hel : es.length ≤ 9223372036854775806 := by unfold maxLen at hec2; simp at hec1; omega
        have hss : es.length = ss.length := by have := hL.len; simp at this; omega
        obtain ⟨M, hM⟩ : ∃ M, M = es.length := ⟨_, rfl⟩
        have hMl : (2 :: es).length = M + 1 := by simp [hM]
        have HM : Hid (M = es.length) := hM
        have HSl : Hid (es.length = ss.length) := hss
        have hMb : M ≤ 9223372036854775806 := by omega
        obtain ⟨m, hm⟩ : ∃ m, m = M + 1 := ⟨_, rfl⟩
        rw [hMl, ← hm] at hve hec1
        subst hve
        have HMm : Hid (m = M + 1) := hm
        have jw : IntKind.i64.wrap ((m : Int) - 1) = (M : Int) := by rw [hm, show (((M + 1 : Nat) : Int) - 1) = (M : Int) by omega]; exact wrap_i64 (by omega) (by omega)
        have j0 : (0 : Int) ≤ (M : Int) := by omega
        have j1 : (M : Int) < (m : Int) := by omega
        have HOp : Hid (Sl w op.pv op.ps ∧ op.n < 18446744073709551616) := by
          obtain ⟨b', o', op', _, hop', hsl', hn', _⟩ := HV.out.at (Below.refl _ _) k hlt
          rw [hop, ← hop']
          exact ⟨hsl', hn'⟩
        have HOp1 : Hid (op.pv.oneCell' = true) := by
          obtain ⟨a, c, e, _⟩ := hsl
          show op.pv.oneCell' = true
          rw [e]; rfl
        obtain ⟨pa, pl, pc, hpv⟩ : ∃ a n c, op.pv = .slice a n c := by
          obtain ⟨a, c, e, _⟩ := HOp.out.1
          exact ⟨a, _, c, e⟩
        have HAt : Hid (∀ W, Below w.heap.size w W → W.cell? ⟨b, of + k * 6, none⟩ = some (.int .i64 op.kind) ∧ W.cell? ⟨b, of + k * 6 + 1, none⟩ = some (.int .i64 op.pos) ∧ W.cell? ⟨b, of + k * 6 + 2, none⟩ = some (.int .u64 (op.n : Int)) ∧ W.cell? ⟨b, of + k * 6 + 3, none⟩ = some (.int .i64 op.num) ∧ W.cell? ⟨b, of + k * 6 + 4, none⟩ = some (.slice pa pl pc) ∧ W.cell? ⟨b, of + k * 6 + 5, none⟩ = some (.string op.s)) := fun W hW => by
          obtain ⟨b', o', op', e', hop', _, _, d0, d1, d2, d3, d4, d5⟩ := HV.out.at hW k hlt
          cases e'
          rw [← hpv, hop, ← hop']
          exact ⟨d0, d1, d2, d3, d4, d5⟩
        rw [hpv] at c4
        have HPv : Hid (op.pv = .slice pa pl pc) := hpv
        by_cases hy : why = 0
        · subst hy
          have hC := ct_laid HT.out hF hL hz hl hS HTot.out hlt hop hsld hnn
          obtain ⟨Z, y, hZ⟩ : ∃ Z y, layF zs op = (Z, y) := ⟨_, _, rfl⟩
          rw [hZ] at hC
          have HL : Hid (LaidE [] (firstC :: ss) (2 :: es) zs) := hL
          have HSS : Hid (∀ o ∈ ss, Sl w o.pv o.ps ∧ o.n < 18446744073709551616) := hS
          unfold OpV.vals at hC
          rw [hpv] at hC
          by_cases hy : y = 0
          · subst hy
            have HZ : Hid (layF zs op = (Z, 0)) := hZ
            have HEl : Hid (∀ W v', Fr w W wA.heap.size v' u6 (.slice (some ⟨ge, 0, none⟩) m ce) Z 0 (firstC :: ss) (2 :: es) → W.cell? ⟨ge, M, none⟩ = some (.int .i64 (zs.length : Int))) := fun W v' h => by
              obtain ⟨g', c', e', he⟩ := h.2.2.1.at es.length (by simp)
              cases e'
              have := HL.out.last'
              rw [this] at he
              rw [hM]; exact he
            have he : wr.cell? ⟨ge, M, none⟩ = some (.int .i64 (zs.length : Int)) := by
              obtain ⟨g', c', e', he⟩ := hF0.2.2.1.at es.length (by simp)
              cases e'
              have := HL.out.last'
              rw [this] at he
              rw [hM]; exact he
            by_cases hgt : zs.length < Z.length
            · have HC : Hid (Calls Tryd.prog 16 #[.pointer (some ⟨wA.heap.size, 0, none⟩), .agg #[.int .i64 op.kind, .int .i64 op.pos, .int .u64 (op.n : Int), .int .i64 op.num, .slice pa pl pc, .string op.s]] wr.drew fun e w' => ∃ v' : Value, e = .returned (.bool true) ∧ (w'.cell? ⟨b, of + k * 6, none⟩ = some (.int .i64 op.kind) ∧ w'.cell? ⟨b, of + k * 6 + 1, none⟩ = some (.int .i64 op.pos) ∧ w'.cell? ⟨b, of + k * 6 + 2, none⟩ = some (.int .u64 (op.n : Int)) ∧ w'.cell? ⟨b, of + k * 6 + 3, none⟩ = some (.int .i64 op.num) ∧ w'.cell? ⟨b, of + k * 6 + 4, none⟩ = some (.slice pa pl pc) ∧ w'.cell? ⟨b, of + k * 6 + 5, none⟩ = some (.string op.s) ∧ w'.cell? ⟨ge, M, none⟩ = some (.int .i64 (zs.length : Int))) ∧ Hid (Fr w w' wA.heap.size v' u6 (.slice (some ⟨ge, 0, none⟩) m ce) Z 0 (firstC :: ss) (2 :: es)) ∧ Hid (Z.length ≤ 2 + total (os.take (k + 1)))) := hC.mono fun e w' h => by
                obtain ⟨h1, _, _, v', h2, h3⟩ := h
                obtain ⟨d0, d1, d2, d3, d4, d5⟩ := HAt.out w' h2.out.2.2.2.1
                exact ⟨v', h1, ⟨d0, d1, d2, d3, d4, d5, HEl.out w' v' h2.out⟩, h2, h3⟩
              have hgt1 : (zs.length : Int) < (Z.length : Int) := by omega
              clear hw hF hF0 hL hz hS hop hsl hsld HS HSd hC hZ hgl hgb hpv hgt hM hss hMl hel hec2 hm
              go_wp2_with fail
              go_region_held3 (fun w' => w'.cell? ⟨b, of + k * 6, none⟩ = some (.int .i64 op.kind) ∧ w'.cell? ⟨b, of + k * 6 + 1, none⟩ = some (.int .i64 op.pos) ∧ w'.cell? ⟨b, of + k * 6 + 2, none⟩ = some (.int .u64 (op.n : Int)) ∧ w'.cell? ⟨b, of + k * 6 + 3, none⟩ = some (.int .i64 op.num) ∧ w'.cell? ⟨b, of + k * 6 + 4, none⟩ = some (.slice pa pl pc) ∧ w'.cell? ⟨b, of + k * 6 + 5, none⟩ = some (.string op.s) ∧ w'.cell? ⟨ge, M, none⟩ = some (.int .i64 (zs.length : Int))) (go_keep) (first | (go_at_call 16; refine HC.out.mono ?_; rintro e w3 ⟨v3, rfl, h3, HF3, HZl⟩; obtain ⟨d0, d1, d2, d3, d4, d5, d6⟩ := h3) | (go_at_call 17; refine (len_any HF3.out.1).mono ?_; rintro e w9 ⟨rfl, hw9⟩; rw [hw9]; clear hw9 w9))
              obtain ⟨c0, c1, c2, c3, c4, c5⟩ := HAt.out w3 HF3.out.2.2.2.1
              have HNew : Hid (∀ i u, (opc op)[i]? = some u → (w3.alloc (.cells #[.int .i64 op.kind, .int .i64 op.pos, .int .u64 (op.n : Int), .int .i64 op.num, .slice pa pl pc, .string op.s] 36)).cell? ⟨w3.heap.size, i, none⟩ = some u) := fun i u hu => by
                rw [cell_of_row _ _ i _ _ _ (heap_alloc_new w3 _), ← hu, opc, HPv.out, ← Array.getElem?_toList]
              have HFa : Hid (Fr w (w3.alloc (.cells #[.int .i64 op.kind, .int .i64 op.pos, .int .u64 (op.n : Int), .int .i64 op.num, .slice pa pl pc, .string op.s] 36)) wA.heap.size v3 u6 (.slice (some ⟨ge, 0, none⟩) m ce) Z 0 (firstC :: ss) (2 :: es)) := HF3.out.alloc _
              clear he d0 d1 d2 d3 d4 d5 d6
              go_wp2_with (at_builtin; refine wpList_append_op (.tmp 57) (.tmp 62) (by rfl) rfl op rfl HFa.out.2.1 rfl HNew.out HOp1.out (by simp; omega) (by have := HFa.out.2.2.2.1.size; simpa using this) ?_; intro v4 w4 h2' g4 a4; have HF4 : Hid (Fr w w4 wA.heap.size v3 v4 (.slice (some ⟨ge, 0, none⟩) m ce) Z 0 ((firstC :: ss) ++ [op]) (2 :: es)) := HFa.out.step h2' g4 a4; clear h2' g4 a4)
              refine (len_any HF4.out.1).mono ?_
              rintro e w' ⟨rfl, hw⟩
              rw [hw]
              clear hw w' c0 c1 c2 c3 c4 c5
              have HFb : Hid (Fr w (w4.alloc (.cells #[.int .i64 (Z.length : Int)] 3)) wA.heap.size v3 v4 (.slice (some ⟨ge, 0, none⟩) m ce) Z 0 ((firstC :: ss) ++ [op]) (2 :: es)) := HF4.out.alloc _
              have HNe : Hid ((w4.alloc (.cells #[.int .i64 (Z.length : Int)] 3)).cell? ⟨w4.heap.size, 0, none⟩ = some (.int .i64 (Z.length : Int))) := by
                show _ = _
                rw [cell_of_row _ _ 0 _ _ _ (heap_alloc_new w4 _)]; rfl
              have HLen : Hid ((2 :: es).length ≤ 4294967296) := by
                have h1 := HSl.out
                show (2 :: es).length ≤ 4294967296
                simp only [List.length_cons]; omega
              have HBs : Hid (w.heap.size ≤ (w4.alloc (.cells #[.int .i64 (Z.length : Int)] 3)).heap.size) := HFb.out.2.2.2.1.size
              have HTk : Hid (∀ (v5 : Value) (w5 : World), Ends w5 w.heap.size v5 ((2 :: es) ++ [Z.length]) → (w4.alloc (.cells #[.int .i64 (Z.length : Int)] 3)).grownBy w5 (Value.slice (some ⟨ge, 0, none⟩) m ce).ownBlock → (v5.ownBlock = (Value.slice (some ⟨ge, 0, none⟩) m ce).ownBlock ∨ v5.ownBlock = some (w4.alloc (.cells #[.int .i64 (Z.length : Int)] 3)).heap.size) → Ct w w5 wA.heap.size v4 v5 os (k + 1)) := fun v5 w5 h2' g4 a4 => ct_taken HZ.out (HFb.out.endd h2' g4 a4) HL.out HZl.out hl HSS.out HOp.out
              go_wp2_with (at_builtin; refine wpList_append_end (.tmp 64) (.tmp 67) (by rfl) rfl Z.length rfl HFb.out.2.2.1 rfl HNe.out HLen.out HBs.out ?_; intro v5 w5 h2' g4 a4; have HS5 : Hid (Ct w w5 wA.heap.size v4 v5 os (k + 1)) := HTk.out v5 w5 h2' g4 a4; clear h2' g4 a4)
              go_roundw
              case rel => exact ⟨k + 1, by omega, by go_num, HS5.out⟩
              case measure => simp [intOf]; omega
            · have HC : Hid (Calls Tryd.prog 16 #[.pointer (some ⟨wA.heap.size, 0, none⟩), .agg #[.int .i64 op.kind, .int .i64 op.pos, .int .u64 (op.n : Int), .int .i64 op.num, .slice pa pl pc, .string op.s]] wr.drew fun e w' => ∃ v' : Value, e = .returned (.bool true) ∧ (w'.cell? ⟨b, of + k * 6, none⟩ = some (.int .i64 op.kind) ∧ w'.cell? ⟨b, of + k * 6 + 1, none⟩ = some (.int .i64 op.pos) ∧ w'.cell? ⟨b, of + k * 6 + 2, none⟩ = some (.int .u64 (op.n : Int)) ∧ w'.cell? ⟨b, of + k * 6 + 3, none⟩ = some (.int .i64 op.num) ∧ w'.cell? ⟨b, of + k * 6 + 4, none⟩ = some (.slice pa pl pc) ∧ w'.cell? ⟨b, of + k * 6 + 5, none⟩ = some (.string op.s) ∧ w'.cell? ⟨ge, M, none⟩ = some (.int .i64 (zs.length : Int))) ∧ Hid (Fr w w' wA.heap.size v' u6 (.slice (some ⟨ge, 0, none⟩) m ce) Z 0 (firstC :: ss) (2 :: es)) ∧ Hid (Ct w w' wA.heap.size u6 (.slice (some ⟨ge, 0, none⟩) m ce) os (k + 1))) := hC.mono fun e w' h => by
                obtain ⟨h1, _, h4, v', h2, h3⟩ := h
                obtain ⟨d0, d1, d2, d3, d4, d5⟩ := HAt.out w' h2.out.2.2.2.1
                exact ⟨v', h1, ⟨d0, d1, d2, d3, d4, d5, HEl.out w' v' h2.out⟩, h2, h4.out rfl (show Z.length ≤ zs.length by omega)⟩
              have hgt1 : (Z.length : Int) ≤ (zs.length : Int) := by omega
              clear hw hF hF0 hL hz hS hop hsl hsld HS HSd hC hZ hgl hgb hpv hgt hM hss hMl hel hec2 hm
              go_wp2_with fail
              go_region_held3 (fun w' => w'.cell? ⟨b, of + k * 6, none⟩ = some (.int .i64 op.kind) ∧ w'.cell? ⟨b, of + k * 6 + 1, none⟩ = some (.int .i64 op.pos) ∧ w'.cell? ⟨b, of + k * 6 + 2, none⟩ = some (.int .u64 (op.n : Int)) ∧ w'.cell? ⟨b, of + k * 6 + 3, none⟩ = some (.int .i64 op.num) ∧ w'.cell? ⟨b, of + k * 6 + 4, none⟩ = some (.slice pa pl pc) ∧ w'.cell? ⟨b, of + k * 6 + 5, none⟩ = some (.string op.s) ∧ w'.cell? ⟨ge, M, none⟩ = some (.int .i64 (zs.length : Int))) (go_keep) (first | (go_at_call 16; refine HC.out.mono ?_; rintro e w3 ⟨v3, rfl, h3, HF3, HS2⟩; obtain ⟨d0, d1, d2, d3, d4, d5, d6⟩ := h3) | (go_at_call 17; refine (len_any HF3.out.1).mono ?_; rintro e w9 ⟨rfl, hw9⟩; rw [hw9]; clear hw9 w9))
              go_wp2_with fail
              go_roundw
              case rel => exact ⟨k + 1, by omega, by go_num, HS2.out⟩
              case measure => simp [intOf]; omega
          · have hyb : (y == 0) = false := by simpa using hy
            have HC : Hid (Calls Tryd.prog 16 #[.pointer (some ⟨wA.heap.size, 0, none⟩), .agg #[.int .i64 op.kind, .int .i64 op.pos, .int .u64 (op.n : Int), .int .i64 op.num, .slice pa pl pc, .string op.s]] wr.drew fun e w' => ∃ v' : Value, e = .returned (.bool false) ∧ (w'.cell? ⟨b, of + k * 6, none⟩ = some (.int .i64 op.kind) ∧ w'.cell? ⟨b, of + k * 6 + 1, none⟩ = some (.int .i64 op.pos) ∧ w'.cell? ⟨b, of + k * 6 + 2, none⟩ = some (.int .u64 (op.n : Int)) ∧ w'.cell? ⟨b, of + k * 6 + 3, none⟩ = some (.int .i64 op.num) ∧ w'.cell? ⟨b, of + k * 6 + 4, none⟩ = some (.slice pa pl pc) ∧ w'.cell? ⟨b, of + k * 6 + 5, none⟩ = some (.string op.s)) ∧ Hid (Ct w w' wA.heap.size u6 (.slice (some ⟨ge, 0, none⟩) m ce) os (k + 1))) := hC.mono fun e w' h => by
              obtain ⟨h1, h4, _, v', h2, h3⟩ := h
              exact ⟨v', by rw [h1, hyb], HAt.out w' h2.out.2.2.2.1, h4.out hy⟩
            clear hw hF hF0 hL hz hS hop hsl hsld HS HSd hC hZ hgl hgb hpv hM hss hMl hel hec2 hm
            go_wp2_with fail
            refine wp_region_held_drew (S := fun w' => w'.cell? ⟨b, of + k * 6, none⟩ = some (.int .i64 op.kind) ∧ w'.cell? ⟨b, of + k * 6 + 1, none⟩ = some (.int .i64 op.pos) ∧ w'.cell? ⟨b, of + k * 6 + 2, none⟩ = some (.int .u64 (op.n : Int)) ∧ w'.cell? ⟨b, of + k * 6 + 3, none⟩ = some (.int .i64 op.num) ∧ w'.cell? ⟨b, of + k * 6 + 4, none⟩ = some (.slice pa pl pc) ∧ w'.cell? ⟨b, of + k * 6 + 5, none⟩ = some (.string op.s)) (by kernel_rfl) (by (try dsimp only); go_keep) (fun hHeld => ?_)
            refine takeH (i := 0) (d := 40) (v := .pointer (some ⟨wA.heap.size, 0, none⟩)) rfl rfl (by kernel_rfl) (by kernel_rfl) (by kernel_rfl) (fun _ _ _ h => h) (Or.inl ⟨by kernel_rfl, by intro w hSw; (try dsimp only at hSw); go_simp⟩) (by assumption) ?_
            (try simp only [Act.put, List.setIfInBounds_toArray, List.set_cons_zero, List.set_cons_succ])
            refine takeH (i := 1) (d := 41) (v := .slice (some ⟨b, of, none⟩) os.length cap) rfl rfl (by kernel_rfl) (by kernel_rfl) (by kernel_rfl) (fun _ _ _ h => h) (Or.inl ⟨by kernel_rfl, by intro w hSw; (try dsimp only at hSw); go_simp⟩) (by assumption) ?_
            (try simp only [Act.put, List.setIfInBounds_toArray, List.set_cons_zero, List.set_cons_succ])
            refine takeH (i := 2) (d := 42) (v := .int .i64 (k : Int)) rfl rfl (by kernel_rfl) (by kernel_rfl) (by kernel_rfl) (fun _ _ _ h => h) (Or.inl ⟨by kernel_rfl, by intro w hSw; (try dsimp only at hSw); go_simp⟩) (by assumption) ?_
            (try simp only [Act.put, List.setIfInBounds_toArray, List.set_cons_zero, List.set_cons_succ])
            refine takeH (i := 3) (d := 43) (v := .pointer (some ⟨b, of + k * 6, none⟩)) rfl rfl (by kernel_rfl) (by kernel_rfl) (by kernel_rfl) (fun _ _ _ h => h) (Or.inl ⟨by kernel_rfl, by intro w hSw; (try dsimp only at hSw); go_simp⟩) (by assumption) ?_
            (try simp only [Act.put, List.setIfInBounds_toArray, List.set_cons_zero, List.set_cons_succ])
            refine takeH (i := 4) (d := 44) (v := .agg #[.int .i64 op.kind, .int .i64 op.pos, .int .u64 (op.n : Int), .int .i64 op.num, .slice pa pl pc, .string op.s]) rfl rfl (by kernel_rfl) (by kernel_rfl) (by kernel_rfl) (fun _ _ _ h => h) (Or.inl ⟨by kernel_rfl, by intro w hSw; (try dsimp only at hSw); go_simp⟩) (by assumption) ?_
            (try simp only [Act.put, List.setIfInBounds_toArray, List.set_cons_zero, List.set_cons_succ])
            refine callH (i := 5) (d := 45) (by kernel_rfl) rfl rfl (by kernel_rfl) 16 #[.tmp 40, .tmp 44] #[51, 36] rfl HEn.out #[.pointer (some ⟨wA.heap.size, 0, none⟩), .agg #[.int .i64 op.kind, .int .i64 op.pos, .int .u64 (op.n : Int), .int .i64 op.num, .slice pa pl pc, .string op.s]] (by simp [Act.eval]) (HC.out.mono fun e w' ⟨_, h1, h2⟩ => ⟨h1, h2⟩) ?_
            rintro w3 ⟨h3, HS2⟩
            refine ⟨h3, fun hHeld3 => ?_⟩
            clear hHeld
            (try simp only [Act.put, List.setIfInBounds_toArray, List.set_cons_zero, List.set_cons_succ])
            refine takeH (i := 6) (d := 46) (v := .bool false) rfl rfl (by kernel_rfl) (by kernel_rfl) (by kernel_rfl) (fun _ _ _ h => h) (Or.inl ⟨by kernel_rfl, by intro w hSw; (try dsimp only at hSw); go_simp⟩) (by assumption) ?_
            (try simp only [Act.put, List.setIfInBounds_toArray, List.set_cons_zero, List.set_cons_succ])
            refine takeH (i := 7) (d := 47) (v := undef) rfl rfl (by kernel_rfl) (by kernel_rfl) (by kernel_rfl) (fun _ _ _ h => h) (Or.inr ⟨by kernel_rfl, rfl⟩) (by assumption) ?_
            (try simp only [Act.put, List.setIfInBounds_toArray, List.set_cons_zero, List.set_cons_succ])
            refine takeH (i := 8) (d := 48) (v := undef) rfl rfl (by kernel_rfl) (by kernel_rfl) (by kernel_rfl) (fun _ _ _ h => h) (Or.inr ⟨by kernel_rfl, rfl⟩) (by assumption) ?_
            (try simp only [Act.put, List.setIfInBounds_toArray, List.set_cons_zero, List.set_cons_succ])
            refine takeH (i := 9) (d := 49) (v := undef) rfl rfl (by kernel_rfl) (by kernel_rfl) (by kernel_rfl) (fun _ _ _ h => h) (Or.inr ⟨by kernel_rfl, rfl⟩) (by assumption) ?_
            (try simp only [Act.put, List.setIfInBounds_toArray, List.set_cons_zero, List.set_cons_succ])
            refine takeH (i := 10) (d := 50) (v := undef) rfl rfl (by kernel_rfl) (by kernel_rfl) (by kernel_rfl) (fun _ _ _ h => h) (Or.inr ⟨by kernel_rfl, rfl⟩) (by assumption) ?_
            (try simp only [Act.put, List.setIfInBounds_toArray, List.set_cons_zero, List.set_cons_succ])
            refine takeH (i := 11) (d := 51) (v := undef) rfl rfl (by kernel_rfl) (by kernel_rfl) (by kernel_rfl) (fun _ _ _ h => h) (Or.inr ⟨by kernel_rfl, rfl⟩) (by assumption) ?_
            (try simp only [Act.put, List.setIfInBounds_toArray, List.set_cons_zero, List.set_cons_succ])
            refine takeH (i := 12) (d := 52) (v := undef) rfl rfl (by kernel_rfl) (by kernel_rfl) (by kernel_rfl) (fun _ _ _ h => h) (Or.inr ⟨by kernel_rfl, rfl⟩) (by assumption) ?_
            (try simp only [Act.put, List.setIfInBounds_toArray, List.set_cons_zero, List.set_cons_succ])
            refine takeH (i := 13) (d := 53) (v := undef) rfl rfl (by kernel_rfl) (by kernel_rfl) (by kernel_rfl) (fun _ _ _ h => h) (Or.inr ⟨by kernel_rfl, rfl⟩) (by assumption) ?_
            (try simp only [Act.put, List.setIfInBounds_toArray, List.set_cons_zero, List.set_cons_succ])
            refine takeH (i := 14) (d := 54) (v := undef) rfl rfl (by kernel_rfl) (by kernel_rfl) (by kernel_rfl) (fun _ _ _ h => h) (Or.inr ⟨by kernel_rfl, rfl⟩) (by assumption) ?_
            (try simp only [Act.put, List.setIfInBounds_toArray, List.set_cons_zero, List.set_cons_succ])
            refine takeH (i := 15) (d := 55) (v := undef) rfl rfl (by kernel_rfl) (by kernel_rfl) (by kernel_rfl) (fun _ _ _ h => h) (Or.inr ⟨by kernel_rfl, rfl⟩) (by assumption) ?_
            (try simp only [Act.put, List.setIfInBounds_toArray, List.set_cons_zero, List.set_cons_succ])
            refine takeH (i := 16) (d := 56) (v := .bool false) rfl rfl (by kernel_rfl) (by kernel_rfl) (by kernel_rfl) (fun _ _ _ h => h) (Or.inl ⟨by kernel_rfl, by intro w hSw; (try dsimp only at hSw); go_simp⟩) (by assumption) ?_
            (try simp only [Act.put, List.setIfInBounds_toArray, List.set_cons_zero, List.set_cons_succ])
            refine wpAnyH_done (by kernel_rfl) ?_ _
            go_wp2_with fail
            go_roundw
            case rel => exact ⟨k + 1, by omega, by go_num, HS2.out⟩
            case measure => simp [intOf]; omega
        · have hC := ct_not hw hy hsld HSd.out hlt
          unfold OpV.vals at hC
          rw [hpv] at hC
          have HC : Hid (Calls Tryd.prog 16 #[.pointer (some ⟨wA.heap.size, 0, none⟩), .agg #[.int .i64 op.kind, .int .i64 op.pos, .int .u64 (op.n : Int), .int .i64 op.num, .slice pa pl pc, .string op.s]] wr.drew fun e w' => ∃ v' : Value, e = .returned (.bool false) ∧ (w'.cell? ⟨b, of + k * 6, none⟩ = some (.int .i64 op.kind) ∧ w'.cell? ⟨b, of + k * 6 + 1, none⟩ = some (.int .i64 op.pos) ∧ w'.cell? ⟨b, of + k * 6 + 2, none⟩ = some (.int .u64 (op.n : Int)) ∧ w'.cell? ⟨b, of + k * 6 + 3, none⟩ = some (.int .i64 op.num) ∧ w'.cell? ⟨b, of + k * 6 + 4, none⟩ = some (.slice pa pl pc) ∧ w'.cell? ⟨b, of + k * 6 + 5, none⟩ = some (.string op.s)) ∧ Hid (Ct w w' wA.heap.size u6 (.slice (some ⟨ge, 0, none⟩) m ce) os (k + 1))) := hC.mono fun e w' h => by
            obtain ⟨h1, h4⟩ := h
            obtain ⟨_, _, _, _, _, hf, _⟩ := h4.out
            exact ⟨.bool false, h1, HAt.out w' hf.2.2.2.1, h4⟩
          clear hw hF hF0 hL hz hS hop hsl hsld HS HSd hC hgl hgb hpv hM hss hMl hel hec2 hm
          go_wp2_with fail
          refine wp_region_held_drew (S := fun w' => w'.cell? ⟨b, of + k * 6, none⟩ = some (.int .i64 op.kind) ∧ w'.cell? ⟨b, of + k * 6 + 1, none⟩ = some (.int .i64 op.pos) ∧ w'.cell? ⟨b, of + k * 6 + 2, none⟩ = some (.int .u64 (op.n : Int)) ∧ w'.cell? ⟨b, of + k * 6 + 3, none⟩ = some (.int .i64 op.num) ∧ w'.cell? ⟨b, of + k * 6 + 4, none⟩ = some (.slice pa pl pc) ∧ w'.cell? ⟨b, of + k * 6 + 5, none⟩ = some (.string op.s)) (by kernel_rfl) (by (try dsimp only); go_keep) (fun hHeld => ?_)
          refine takeH (i := 0) (d := 40) (v := .pointer (some ⟨wA.heap.size, 0, none⟩)) rfl rfl (by kernel_rfl) (by kernel_rfl) (by kernel_rfl) (fun _ _ _ h => h) (Or.inl ⟨by kernel_rfl, by intro w hSw; (try dsimp only at hSw); go_simp⟩) (by assumption) ?_
          (try simp only [Act.put, List.setIfInBounds_toArray, List.set_cons_zero, List.set_cons_succ])
          refine takeH (i := 1) (d := 41) (v := .slice (some ⟨b, of, none⟩) os.length cap) rfl rfl (by kernel_rfl) (by kernel_rfl) (by kernel_rfl) (fun _ _ _ h => h) (Or.inl ⟨by kernel_rfl, by intro w hSw; (try dsimp only at hSw); go_simp⟩) (by assumption) ?_
          (try simp only [Act.put, List.setIfInBounds_toArray, List.set_cons_zero, List.set_cons_succ])
          refine takeH (i := 2) (d := 42) (v := .int .i64 (k : Int)) rfl rfl (by kernel_rfl) (by kernel_rfl) (by kernel_rfl) (fun _ _ _ h => h) (Or.inl ⟨by kernel_rfl, by intro w hSw; (try dsimp only at hSw); go_simp⟩) (by assumption) ?_
          (try simp only [Act.put, List.setIfInBounds_toArray, List.set_cons_zero, List.set_cons_succ])
          refine takeH (i := 3) (d := 43) (v := .pointer (some ⟨b, of + k * 6, none⟩)) rfl rfl (by kernel_rfl) (by kernel_rfl) (by kernel_rfl) (fun _ _ _ h => h) (Or.inl ⟨by kernel_rfl, by intro w hSw; (try dsimp only at hSw); go_simp⟩) (by assumption) ?_
          (try simp only [Act.put, List.setIfInBounds_toArray, List.set_cons_zero, List.set_cons_succ])
          refine takeH (i := 4) (d := 44) (v := .agg #[.int .i64 op.kind, .int .i64 op.pos, .int .u64 (op.n : Int), .int .i64 op.num, .slice pa pl pc, .string op.s]) rfl rfl (by kernel_rfl) (by kernel_rfl) (by kernel_rfl) (fun _ _ _ h => h) (Or.inl ⟨by kernel_rfl, by intro w hSw; (try dsimp only at hSw); go_simp⟩) (by assumption) ?_
          (try simp only [Act.put, List.setIfInBounds_toArray, List.set_cons_zero, List.set_cons_succ])
          refine callH (i := 5) (d := 45) (by kernel_rfl) rfl rfl (by kernel_rfl) 16 #[.tmp 40, .tmp 44] #[51, 36] rfl HEn.out #[.pointer (some ⟨wA.heap.size, 0, none⟩), .agg #[.int .i64 op.kind, .int .i64 op.pos, .int .u64 (op.n : Int), .int .i64 op.num, .slice pa pl pc, .string op.s]] (by simp [Act.eval]) (HC.out.mono fun e w' ⟨_, h1, h2⟩ => ⟨h1, h2⟩) ?_
          rintro w3 ⟨h3, HS2⟩
          refine ⟨h3, fun hHeld3 => ?_⟩
          clear hHeld
          (try simp only [Act.put, List.setIfInBounds_toArray, List.set_cons_zero, List.set_cons_succ])
          refine takeH (i := 6) (d := 46) (v := .bool false) rfl rfl (by kernel_rfl) (by kernel_rfl) (by kernel_rfl) (fun _ _ _ h => h) (Or.inl ⟨by kernel_rfl, by intro w hSw; (try dsimp only at hSw); go_simp⟩) (by assumption) ?_
          (try simp only [Act.put, List.setIfInBounds_toArray, List.set_cons_zero, List.set_cons_succ])
          refine takeH (i := 7) (d := 47) (v := undef) rfl rfl (by kernel_rfl) (by kernel_rfl) (by kernel_rfl) (fun _ _ _ h => h) (Or.inr ⟨by kernel_rfl, rfl⟩) (by assumption) ?_
          (try simp only [Act.put, List.setIfInBounds_toArray, List.set_cons_zero, List.set_cons_succ])
          refine takeH (i := 8) (d := 48) (v := undef) rfl rfl (by kernel_rfl) (by kernel_rfl) (by kernel_rfl) (fun _ _ _ h => h) (Or.inr ⟨by kernel_rfl, rfl⟩) (by assumption) ?_
          (try simp only [Act.put, List.setIfInBounds_toArray, List.set_cons_zero, List.set_cons_succ])
          refine takeH (i := 9) (d := 49) (v := undef) rfl rfl (by kernel_rfl) (by kernel_rfl) (by kernel_rfl) (fun _ _ _ h => h) (Or.inr ⟨by kernel_rfl, rfl⟩) (by assumption) ?_
          (try simp only [Act.put, List.setIfInBounds_toArray, List.set_cons_zero, List.set_cons_succ])
          refine takeH (i := 10) (d := 50) (v := undef) rfl rfl (by kernel_rfl) (by kernel_rfl) (by kernel_rfl) (fun _ _ _ h => h) (Or.inr ⟨by kernel_rfl, rfl⟩) (by assumption) ?_
          (try simp only [Act.put, List.setIfInBounds_toArray, List.set_cons_zero, List.set_cons_succ])
          refine takeH (i := 11) (d := 51) (v := undef) rfl rfl (by kernel_rfl) (by kernel_rfl) (by kernel_rfl) (fun _ _ _ h => h) (Or.inr ⟨by kernel_rfl, rfl⟩) (by assumption) ?_
          (try simp only [Act.put, List.setIfInBounds_toArray, List.set_cons_zero, List.set_cons_succ])
          refine takeH (i := 12) (d := 52) (v := undef) rfl rfl (by kernel_rfl) (by kernel_rfl) (by kernel_rfl) (fun _ _ _ h => h) (Or.inr ⟨by kernel_rfl, rfl⟩) (by assumption) ?_
          (try simp only [Act.put, List.setIfInBounds_toArray, List.set_cons_zero, List.set_cons_succ])
          refine takeH (i := 13) (d := 53) (v := undef) rfl rfl (by kernel_rfl) (by kernel_rfl) (by kernel_rfl) (fun _ _ _ h => h) (Or.inr ⟨by kernel_rfl, rfl⟩) (by assumption) ?_
          (try simp only [Act.put, List.setIfInBounds_toArray, List.set_cons_zero, List.set_cons_succ])
          refine takeH (i := 14) (d := 54) (v := undef) rfl rfl (by kernel_rfl) (by kernel_rfl) (by kernel_rfl) (fun _ _ _ h => h) (Or.inr ⟨by kernel_rfl, rfl⟩) (by assumption) ?_
          (try simp only [Act.put, List.setIfInBounds_toArray, List.set_cons_zero, List.set_cons_succ])
          refine takeH (i := 15) (d := 55) (v := undef) rfl rfl (by kernel_rfl) (by kernel_rfl) (by kernel_rfl) (fun _ _ _ h => h) (Or.inr ⟨by kernel_rfl, rfl⟩) (by assumption) ?_
          (try simp only [Act.put, List.setIfInBounds_toArray, List.set_cons_zero, List.set_cons_succ])
          refine takeH (i := 16) (d := 56) (v := .bool false) rfl rfl (by kernel_rfl) (by kernel_rfl) (by kernel_rfl) (fun _ _ _ h => h) (Or.inl ⟨by kernel_rfl, by intro w hSw; (try dsimp only at hSw); go_simp⟩) (by assumption) ?_
          (try simp only [Act.put, List.setIfInBounds_toArray, List.set_cons_zero, List.set_cons_succ])
          refine wpAnyH_done (by kernel_rfl) ?_ _
          go_wp2_with fail
          go_roundw
          case rel => exact ⟨k + 1, by omega, by go_num, HS2.out⟩
          case measure => simp [intOf]; omega
      · have HS' := HS.out
        obtain ⟨v, zs, why, ss, es, hF, hL, hz, hl, hS⟩ := HS'
        have htk := total_take_le os k
        have hzl : zs.length ≤ 2147483651 := by have := HTot.out; omega
        have hz2 : 2 ≤ zs.length := by
          obtain ⟨R, hR⟩ := hL.2.2.grows
          rw [firstC_lay] at hR
          rw [hR]; simp
        have HLs : Hid (∀ (W : World) (ge ce m : Nat), Ends W w.heap.size (.slice (some ⟨ge, 0, none⟩) m ce) (2 :: es) → W.cell? ⟨ge, es.length, none⟩ = some (.int .i64 (zs.length : Int))) := fun W ge ce m h => by
          obtain ⟨g', c', e', he⟩ := h.at es.length (by simp)
          cases e'
          rw [hL.last'] at he
          exact he
        obtain ⟨gs, cs, hu6, hgs, hgb, hcs1, hcs2⟩ := hF.2.1.form (by simp)
        obtain ⟨ge, ce, hu7, hgel, hgeb, hce1, hce2⟩ := hF.2.2.1.form (by simp)
        have HC : Hid (Calls Tryd.prog 18 #[.pointer (some ⟨wA.heap.size, 0, none⟩)] wr fun e w' => e = .returned (.slice (some ⟨wr.heap.size, 0, none⟩) zs.length zs.length) ∧ Row w' wr.heap.size zs ∧ Below wr.heap.size wr w') := all_any hF.1 (by omega)
        have hlenE := hL.len
        obtain ⟨M, hM⟩ : ∃ M, M = es.length := ⟨_, rfl⟩
        rw [← hM] at HLs
        obtain ⟨m, hm⟩ : ∃ m, m = M + 1 := ⟨_, rfl⟩
        have hmE : (2 :: es).length = m := by simp [hm, hM]
        have hmS : (firstC :: ss).length = m := by rw [hlenE]; exact hmE
        have hmb : m ≤ 9223372036854775807 := by unfold maxLen at hce2; omega
        rw [hmS] at hu6
        rw [hmE] at hu7
        subst hu6
        subst hu7
        have HSS : Hid (∀ o ∈ firstC :: ss, Sl w o.pv o.ps ∧ o.n < 18446744073709551616) := fun o ho => by
          rcases List.mem_cons.1 ho with rfl | ho
          · exact ⟨nil_sl _, by decide⟩
          · exact hS o ho
        have HSm : Hid (∀ z ∈ zs, z < 256) := hF.1.2.2.2
        have jw : IntKind.i64.wrap ((m : Int) - 1) = (M : Int) := by rw [hm, show (((M + 1 : Nat) : Int) - 1) = (M : Int) by omega]; exact wrap_i64 (by omega) (by omega)
        have j0 : (0 : Int) ≤ (M : Int) := by omega
        have j1 : (M : Int) < (m : Int) := by omega
        have jz : IntKind.i64.wrap ((zs.length : Int) - 1) = (zs.length : Int) - 1 := wrap_i64 (by omega) (by omega)
        have HF : Hid (Fr w wr wA.heap.size v (.slice (some ⟨gs, 0, none⟩) m cs) (.slice (some ⟨ge, 0, none⟩) m ce) zs why (firstC :: ss) (2 :: es)) := hF
        have HLL : Hid (LaidE [] (firstC :: ss) (2 :: es) zs) := hL
        obtain ⟨S, hSd⟩ : ∃ S, S = firstC :: ss := ⟨_, rfl⟩
        obtain ⟨E, hEd⟩ : ∃ E, E = 2 :: es := ⟨_, rfl⟩
        rw [← hSd] at HF HLL HSS hmS
        rw [← hEd] at HF HLL HLs hmE
        have HmS : Hid (S.length = m) := hmS
        have HmE : Hid (E.length = m) := hmE
        have he : wr.cell? ⟨ge, M, none⟩ = some (.int .i64 (zs.length : Int)) := HLs.out wr ge ce m HF.out.2.2.1
        clear hF hL hz hl hS HS htk hlenE hM hm hmE hmS hSd hEd hgs hgel hcs1 hcs2 hce1 hce2 hgb hgeb
        go_wp2_with fail
        refine HC.out.mono ?_
        rintro e w5 ⟨rfl, hr5, hb5⟩
        have HR5 : Hid (Row w5 wr.heap.size zs) := hr5
        have HB5 : Hid (Below wr.heap.size wr w5) := hb5
        have he5 : w5.cell? ⟨ge, M, none⟩ = some (.int .i64 (zs.length : Int)) := HLs.out w5 ge ce m (HF.out.2.2.1.keeps (Keeps.of_below (S := fun _ => False) hb5) (fun _ _ h => h))
        clear hr5 hb5 HC he
        go_wp2_with fail
        refine (within_any at_ ((zs.length : Int) - 1) w5 (by omega) (by omega)).mono ?_
        rintro e w' ⟨n, rfl, hn, hw⟩
        rw [hw]
        clear hw w'
        have n0 : (0 : Int) ≤ (n : Int) := by omega
        have n1 : (n : Int) ≤ (zs.length : Int) := by omega
        have hnl : n < zs.length := by omega
        have HSl : Hid (Sl w5 (.slice (some ⟨wr.heap.size, 0, none⟩) n zs.length) (zs.take n)) := (row_whole HR5.out HSm.out (by omega)).front n (by omega)
        have HTl : Hid ((zs.take n).length ≤ 1099511627776) := by
          show (zs.take n).length ≤ 1099511627776
          rw [List.length_take]; omega
        go_wp2_with fail
        refine (newReader_any HSl.out HTl.out).mono ?_
        rintro e w6 ⟨q, rfl, hq, hr6, hb6⟩
        have HI0 : Hid (In3 w w6 q w5.heap.size (.slice (some ⟨gs, 0, none⟩) m cs) (.slice (some ⟨ge, 0, none⟩) m ce) S E zs n 0 0) := by
          have hB := HF.out.2.2.2.1
          have hB6 : Below wr.heap.size wr w6 := HB5.out.trans (hb6.mono HB5.out.size)
          have hk : Keeps (fun _ => False) wr w6 := Keeps.of_below hB6
          have hgs : gs < wr.heap.size := by
            obtain ⟨g', c', e', hl, _⟩ := HF.out.2.1.form HF.out.2.2.2.2.2.2.2.1
            cases e'; exact hl
          have hge : ge < wr.heap.size := by
            obtain ⟨g', c', e', hl, _⟩ := HF.out.2.2.1.form HF.out.2.2.2.2.2.2.2.2
            cases e'; exact hl
          have s1 := HB5.out.size
          have s2 := hB.size
          exact ⟨[], rfl, HLL.out, Nat.zero_le _, hr6, HF.out.2.1.keeps hk (fun _ _ h => h), HF.out.2.2.1.keeps hk (fun _ _ h => h), hB.trans (hB6.mono hB.size), fun g hg => by have e : gs = g := Option.some.inj hg; omega, fun g hg => by have e : ge = g := Option.some.inj hg; omega, by omega, by omega, HSm.out⟩
        clear hr6 hb6 HR5 HB5 HF HLs HSl HTl he5
        go_wp2_with fail
        go_loopw [12, 13] (fun bg x W => ∃ i b : Nat, i ≤ m ∧ x = .int .i64 (i : Int) ∧ bg = .int .i64 (b : Int) ∧ Hid (In3 w W q w5.heap.size (.slice (some ⟨gs, 0, none⟩) m cs) (.slice (some ⟨ge, 0, none⟩) m ce) S E zs n i b)) (fun _ x _ => m - (intOf x).toNat)
        case atStart => exact ⟨0, 0, Nat.zero_le _, rfl, rfl, HI0.out⟩
        case round =>
          obtain ⟨i, b, hi, rfl, rfl, HI⟩ := hrel
          by_cases hil : i < m
          · have hiS : i < S.length := by rw [HmS.out]; exact hil
            have hiE : i < E.length := by rw [HmE.out]; exact hil
            have hS := HSS.out S[i] (List.getElem_mem _)
            obtain ⟨pa, pl, pc, hpv⟩ : ∃ a n c, S[i].pv = .slice a n c := by
              obtain ⟨a, c, e, _⟩ := hS.1
              exact ⟨a, _, c, e⟩
            have hsix : Six2 wr gs i S[i] pa pl pc := by
              obtain ⟨_, _, _, _, _, hst, _⟩ := HI.out
              exact hst.six hiS hpv
            have e0 := in3_cell HI.out i hiE
            have k0 : (0 : Int) ≤ (i : Int) := by omega
            have k1 : (i : Int) < (m : Int) := by omega
            by_cases hle : E[i] ≤ n
            · have hAg := in3_again_yes HI.out hiS hiE hle HT.out hS hpv
              have hAl := fun (W : World) (b : OpV) (h : In3 w W q w5.heap.size (.slice (some ⟨gs, 0, none⟩) m cs) (.slice (some ⟨ge, 0, none⟩) m ce) S E zs n (i + 1) E[i]) (hb : Sl W b.pv b.ps) (hA : AlikeH S[i] b) => in3_alike h hiS hiE hS.1 hpv hb hA
              obtain ⟨o, hod⟩ : ∃ o, o = S[i] := ⟨_, rfl⟩
              obtain ⟨x, hxd⟩ : ∃ x, x = E[i] := ⟨_, rfl⟩
              rw [← hod] at hAg hAl hsix hpv
              rw [← hxd] at hAg hAl e0 hle
              clear hod hxd hS
              simp only [OpV.vals, hpv] at hAg hAl
              have HAg : Hid (Calls Tryd.prog 21 #[.pointer (some ⟨q, 0, none⟩), .agg #[.int .i64 o.kind, .int .i64 o.pos, .int .u64 (o.n : Int), .int .i64 o.num, .slice pa pl pc, .string o.s]] wr fun e w' => ∃ a' n' c' m' s' qs, e = .returned (.agg #[.int .i64 o.kind, .int .i64 0, .int .u64 ((m' : Nat) : Int), .int .i64 o.num, .slice a' n' c', .string s']) ∧ (Six2 w' gs i o pa pl pc ∧ w'.cell? ⟨ge, i, none⟩ = some (.int .i64 (x : Int))) ∧
                Hid (In3 w w' q w5.heap.size (.slice (some ⟨gs, 0, none⟩) m cs) (.slice (some ⟨ge, 0, none⟩) m ce) S E zs n (i + 1) x) ∧ Hid (Sl w' (.slice a' n' c') qs ∧ AlikeH o ⟨o.kind, 0, m', o.num, .slice a' n' c', qs, s'⟩)) := hAg
              have HAl : Hid (∀ (W : World) (b : OpV), In3 w W q w5.heap.size (.slice (some ⟨gs, 0, none⟩) m cs) (.slice (some ⟨ge, 0, none⟩) m ce) S E zs n (i + 1) x → Sl W b.pv b.ps → AlikeH o b → Calls Tryd.prog 26 #[.agg #[.int .i64 o.kind, .int .i64 o.pos, .int .u64 (o.n : Int), .int .i64 o.num, .slice pa pl pc, .string o.s], .agg #[.int .i64 b.kind, .int .i64 b.pos, .int .u64 (b.n : Int), .int .i64 b.num, b.pv, .string b.s]] W fun e w' => e = .returned (.bool true) ∧ (Six2 w' gs i o pa pl pc ∧ w'.cell? ⟨ge, i, none⟩ = some (.int .i64 (x : Int))) ∧ Hid (In3 w w' q w5.heap.size (.slice (some ⟨gs, 0, none⟩) m cs) (.slice (some ⟨ge, 0, none⟩) m ce) S E zs n (i + 1) x) ∧ Hid (Keeps (fun _ => False) W w')) := hAl
              obtain ⟨c0, c1, c2, c3, c4, c5⟩ := hsix
              have x1 : (x : Int) ≤ (n : Int) := by omega
              clear hAg hAl hpv HI
              go_wp2_with fail
              refine HAg.out.mono ?_
              rintro e w7 ⟨a7, n7, c7, m7, s7, qs7, rfl, h7, HI7, HX7⟩
              obtain ⟨⟨d0, d1, d2, d3, d4, d5⟩, d6⟩ := h7
              have hka : Keeps (fun _ => False) w7 (w7.alloc (.cells #[.int .i64 o.kind, .int .i64 0, .int .u64 ((m7 : Nat) : Int), .int .i64 o.num, .slice a7 n7 c7, .string s7] 36)) := Keeps.alloc w7 _
              have hkd : Keeps (fun _ => False) w7 (w7.alloc (.cells #[.int .i64 o.kind, .int .i64 0, .int .u64 ((m7 : Nat) : Int), .int .i64 o.num, .slice a7 n7 c7, .string s7] 36)).drew := ⟨rfl, rfl, rfl, hka.size, fun k hk _ => Below.heap_alloc w7 _ k hk⟩
              have HI7d : Hid (In3 w (w7.alloc (.cells #[.int .i64 o.kind, .int .i64 0, .int .u64 ((m7 : Nat) : Int), .int .i64 o.num, .slice a7 n7 c7, .string s7] 36)).drew q w5.heap.size (.slice (some ⟨gs, 0, none⟩) m cs) (.slice (some ⟨ge, 0, none⟩) m ce) S E zs n (i + 1) x) := HI7.out.keeps hkd
              have HX7d : Hid (Sl (w7.alloc (.cells #[.int .i64 o.kind, .int .i64 0, .int .u64 ((m7 : Nat) : Int), .int .i64 o.num, .slice a7 n7 c7, .string s7] 36)).drew (.slice a7 n7 c7) qs7 ∧ AlikeH o ⟨o.kind, 0, m7, o.num, .slice a7 n7 c7, qs7, s7⟩) := ⟨HX7.out.1.keeps hkd (fun _ _ h => h), HX7.out.2⟩
              have g0 := hka.cell d0
              have g1 := hka.cell d1
              have g2 := hka.cell d2
              have g3 := hka.cell d3
              have g4 := hka.cell d4
              have g5 := hka.cell d5
              have g6 := hka.cell d6
              have p0 : (w7.alloc (.cells #[.int .i64 o.kind, .int .i64 0, .int .u64 ((m7 : Nat) : Int), .int .i64 o.num, .slice a7 n7 c7, .string s7] 36)).cell? ⟨w7.heap.size, 0, none⟩ = some (.int .i64 o.kind) := by rw [cell_of_row _ _ 0 _ _ _ (heap_alloc_new w7 _)]; rfl
              have p1 : (w7.alloc (.cells #[.int .i64 o.kind, .int .i64 0, .int .u64 ((m7 : Nat) : Int), .int .i64 o.num, .slice a7 n7 c7, .string s7] 36)).cell? ⟨w7.heap.size, 1, none⟩ = some (.int .i64 0) := by rw [cell_of_row _ _ 1 _ _ _ (heap_alloc_new w7 _)]; rfl
              have p2 : (w7.alloc (.cells #[.int .i64 o.kind, .int .i64 0, .int .u64 ((m7 : Nat) : Int), .int .i64 o.num, .slice a7 n7 c7, .string s7] 36)).cell? ⟨w7.heap.size, 2, none⟩ = some (.int .u64 ((m7 : Nat) : Int)) := by rw [cell_of_row _ _ 2 _ _ _ (heap_alloc_new w7 _)]; rfl
              have p3 : (w7.alloc (.cells #[.int .i64 o.kind, .int .i64 0, .int .u64 ((m7 : Nat) : Int), .int .i64 o.num, .slice a7 n7 c7, .string s7] 36)).cell? ⟨w7.heap.size, 3, none⟩ = some (.int .i64 o.num) := by rw [cell_of_row _ _ 3 _ _ _ (heap_alloc_new w7 _)]; rfl
              have p4 : (w7.alloc (.cells #[.int .i64 o.kind, .int .i64 0, .int .u64 ((m7 : Nat) : Int), .int .i64 o.num, .slice a7 n7 c7, .string s7] 36)).cell? ⟨w7.heap.size, 4, none⟩ = some (.slice a7 n7 c7) := by rw [cell_of_row _ _ 4 _ _ _ (heap_alloc_new w7 _)]; rfl
              have p5 : (w7.alloc (.cells #[.int .i64 o.kind, .int .i64 0, .int .u64 ((m7 : Nat) : Int), .int .i64 o.num, .slice a7 n7 c7, .string s7] 36)).cell? ⟨w7.heap.size, 5, none⟩ = some (.string s7) := by rw [cell_of_row _ _ 5 _ _ _ (heap_alloc_new w7 _)]; rfl
              have HAl2 : Hid (Calls Tryd.prog 26 #[.agg #[.int .i64 o.kind, .int .i64 o.pos, .int .u64 (o.n : Int), .int .i64 o.num, .slice pa pl pc, .string o.s], .agg #[.int .i64 o.kind, .int .i64 0, .int .u64 ((m7 : Nat) : Int), .int .i64 o.num, .slice a7 n7 c7, .string s7]] (w7.alloc (.cells #[.int .i64 o.kind, .int .i64 0, .int .u64 ((m7 : Nat) : Int), .int .i64 o.num, .slice a7 n7 c7, .string s7] 36)).drew fun e w' => e = .returned (.bool true) ∧ (w'.cell? ⟨gs, i * 6, none⟩ = some (.int .i64 o.kind) ∧ w'.cell? ⟨gs, i * 6 + 1, none⟩ = some (.int .i64 o.pos) ∧ w'.cell? ⟨gs, i * 6 + 2, none⟩ = some (.int .u64 (o.n : Int)) ∧ w'.cell? ⟨gs, i * 6 + 3, none⟩ = some (.int .i64 o.num) ∧ w'.cell? ⟨gs, i * 6 + 4, none⟩ = some (.slice pa pl pc) ∧ w'.cell? ⟨gs, i * 6 + 5, none⟩ = some (.string o.s) ∧ w'.cell? ⟨ge, i, none⟩ = some (.int .i64 (x : Int)) ∧ w'.cell? ⟨w7.heap.size, 0, none⟩ = some (.int .i64 o.kind) ∧ w'.cell? ⟨w7.heap.size, 1, none⟩ = some (.int .i64 0) ∧ w'.cell? ⟨w7.heap.size, 2, none⟩ = some (.int .u64 ((m7 : Nat) : Int)) ∧ w'.cell? ⟨w7.heap.size, 3, none⟩ = some (.int .i64 o.num) ∧ w'.cell? ⟨w7.heap.size, 4, none⟩ = some (.slice a7 n7 c7) ∧ w'.cell? ⟨w7.heap.size, 5, none⟩ = some (.string s7)) ∧ Hid (In3 w w' q w5.heap.size (.slice (some ⟨gs, 0, none⟩) m cs) (.slice (some ⟨ge, 0, none⟩) m ce) S E zs n (i + 1) x)) := (HAl.out (w7.alloc (.cells #[.int .i64 o.kind, .int .i64 0, .int .u64 ((m7 : Nat) : Int), .int .i64 o.num, .slice a7 n7 c7, .string s7] 36)).drew ⟨o.kind, 0, m7, o.num, .slice a7 n7 c7, qs7, s7⟩ HI7d.out HX7d.out.1 HX7d.out.2).mono fun e w' h => by
                obtain ⟨h1, ⟨⟨f0, f1, f2, f3, f4, f5⟩, f6⟩, h3, h4⟩ := h
                have hk8 : Keeps (fun _ => False) (w7.alloc (.cells #[.int .i64 o.kind, .int .i64 0, .int .u64 ((m7 : Nat) : Int), .int .i64 o.num, .slice a7 n7 c7, .string s7] 36)) w' := ⟨h4.out.os, h4.out.tape, h4.out.output, h4.out.size, h4.out.block⟩
                exact ⟨h1, ⟨f0, f1, f2, f3, f4, f5, f6, hk8.cell p0, hk8.cell p1, hk8.cell p2, hk8.cell p3, hk8.cell p4, hk8.cell p5⟩, h3⟩
              clear HAg HAl c0 c1 c2 c3 c4 c5 e0 d0 d1 d2 d3 d4 d5 d6 hka hkd HI7 HX7 HI7d HX7d
              go_wp2_with fail
              go_region_held3 (fun w' => w'.cell? ⟨gs, i * 6, none⟩ = some (.int .i64 o.kind) ∧ w'.cell? ⟨gs, i * 6 + 1, none⟩ = some (.int .i64 o.pos) ∧ w'.cell? ⟨gs, i * 6 + 2, none⟩ = some (.int .u64 (o.n : Int)) ∧ w'.cell? ⟨gs, i * 6 + 3, none⟩ = some (.int .i64 o.num) ∧ w'.cell? ⟨gs, i * 6 + 4, none⟩ = some (.slice pa pl pc) ∧ w'.cell? ⟨gs, i * 6 + 5, none⟩ = some (.string o.s) ∧ w'.cell? ⟨ge, i, none⟩ = some (.int .i64 (x : Int)) ∧ w'.cell? ⟨w7.heap.size, 0, none⟩ = some (.int .i64 o.kind) ∧ w'.cell? ⟨w7.heap.size, 1, none⟩ = some (.int .i64 0) ∧ w'.cell? ⟨w7.heap.size, 2, none⟩ = some (.int .u64 ((m7 : Nat) : Int)) ∧ w'.cell? ⟨w7.heap.size, 3, none⟩ = some (.int .i64 o.num) ∧ w'.cell? ⟨w7.heap.size, 4, none⟩ = some (.slice a7 n7 c7) ∧ w'.cell? ⟨w7.heap.size, 5, none⟩ = some (.string s7)) (go_keep) (first | (go_at_call 26; refine HAl2.out.mono ?_; rintro e w8 ⟨rfl, h8, HI8⟩; obtain ⟨f0, f1, f2, f3, f4, f5, f6, r0, r1, r2, r3, r4, r5⟩ := h8) | (go_at_call 22; refine (rerr_any (in3_rd HI8.out)).mono ?_; rintro e w9 ⟨rfl, hw9⟩; rw [hw9]; clear hw9 w9) | (go_at_call 24; refine (rat_any (in3_rd HI8.out)).mono ?_; rintro e w9 ⟨rfl, hw9⟩; rw [hw9]; clear hw9 w9))
              go_wp2_with fail
              go_roundw
              case rel => exact ⟨i + 1, x, by omega, by go_num, rfl, HI8.out⟩
              case measure => simp [intOf]; omega
            · have hAg := in3_again_no HI.out hiS hiE (by omega) HT.out hS.1 hpv
              have hbn : b ≤ n := by obtain ⟨_, _, _, hb, _⟩ := HI.out; exact hb
              obtain ⟨o, hod⟩ : ∃ o, o = S[i] := ⟨_, rfl⟩
              obtain ⟨x, hxd⟩ : ∃ x, x = E[i] := ⟨_, rfl⟩
              rw [← hod] at hAg hsix hpv
              rw [← hxd] at hAg e0 hle
              clear hod hxd hS
              simp only [OpV.vals, hpv] at hAg
              have HAg : Hid (Calls Tryd.prog 21 #[.pointer (some ⟨q, 0, none⟩), .agg #[.int .i64 o.kind, .int .i64 o.pos, .int .u64 (o.n : Int), .int .i64 o.num, .slice pa pl pc, .string o.s]] wr fun e w' => ∃ a' n' c' m' s', e = .returned (.agg #[.int .i64 o.kind, .int .i64 0, .int .u64 ((m' : Nat) : Int), .int .i64 o.num, .slice a' n' c', .string s']) ∧ (Six2 w' gs i o pa pl pc ∧ w'.cell? ⟨ge, i, none⟩ = some (.int .i64 (x : Int))) ∧ Hid (Rd w' q w5.heap.size (zs.take n) b 10) ∧ Hid (Below w.heap.size w w')) := hAg
              obtain ⟨c0, c1, c2, c3, c4, c5⟩ := hsix
              have x1 : (n : Int) < (x : Int) := by omega
              have HTk : Hid ((zs.take n).length = n) := by
                show (zs.take n).length = n
                rw [List.length_take]; omega
              have jb : IntKind.i64.wrap ((n : Int) - (b : Int)) = ((n - b : Nat) : Int) := by rw [wrap_i64 (by omega) (by omega)]; omega
              clear hAg hpv HI
              go_wp2_with fail
              refine HAg.out.mono ?_
              rintro e w7 ⟨a7, n7, c7, m7, s7, rfl, h7, HR7, HB7⟩
              obtain ⟨⟨d0, d1, d2, d3, d4, d5⟩, d6⟩ := h7
              have hka : Keeps (fun _ => False) w7 (w7.alloc (.cells #[.int .i64 o.kind, .int .i64 0, .int .u64 ((m7 : Nat) : Int), .int .i64 o.num, .slice a7 n7 c7, .string s7] 36)) := Keeps.alloc w7 _
              have hkd : Keeps (fun _ => False) w7 (w7.alloc (.cells #[.int .i64 o.kind, .int .i64 0, .int .u64 ((m7 : Nat) : Int), .int .i64 o.num, .slice a7 n7 c7, .string s7] 36)).drew := ⟨rfl, rfl, rfl, hka.size, fun k hk _ => Below.heap_alloc w7 _ k hk⟩
              have g6 := hka.cell d6
              have HR7d : Hid (Rd (w7.alloc (.cells #[.int .i64 o.kind, .int .i64 0, .int .u64 ((m7 : Nat) : Int), .int .i64 o.num, .slice a7 n7 c7, .string s7] 36)) q w5.heap.size (zs.take n) b 10) := HR7.out.keeps hka (fun h => h) (fun h => h)
              have HB7d : Hid (Below w.heap.size w (w7.alloc (.cells #[.int .i64 o.kind, .int .i64 0, .int .u64 ((m7 : Nat) : Int), .int .i64 o.num, .slice a7 n7 c7, .string s7] 36))) := HB7.out.trans (hka.below HB7.out.size (fun _ _ h => h.elim))
              have HLf : Hid (∀ W, Rd W q w5.heap.size (zs.take n) b 10 → Calls Tryd.prog 25 #[.pointer (some ⟨q, 0, none⟩)] W fun e w' => e = .returned (.int .i64 ((n - b : Nat) : Int)) ∧ Stay W w') := fun W h => (rleft_any h).mono fun e w' h => ⟨by rw [h.1, HTk.out], h.2⟩
              have HEd : Hid (Calls Tryd.prog 23 #[.pointer (some ⟨q, 0, none⟩)] (w7.alloc (.cells #[.int .i64 o.kind, .int .i64 0, .int .u64 ((m7 : Nat) : Int), .int .i64 o.num, .slice a7 n7 c7, .string s7] 36)) fun e w' => e = .returned (.int .i64 10) ∧ Hid (Rd w' q w5.heap.size (zs.take n) b 10) ∧ Hid (Below w.heap.size w w')) := (end_not HR7d.out (by decide)).mono fun e w' h => ⟨h.1, h.2.rd HR7d.out, HB7d.out.trans (h.2.2.mono HB7d.out.size)⟩
              clear HAg c0 c1 c2 c3 c4 c5 e0 d0 d1 d2 d3 d4 d5 d6 hka hkd
              go_wp2_with fail
              refine (rerr_any HR7d.out).mono ?_
              rintro e w' ⟨rfl, hw⟩
              rw [hw]
              clear hw w'
              go_wp2_with fail
              refine HEd.out.mono ?_
              rintro e w8 ⟨rfl, HR8, HB8⟩
              go_wp2_with fail
              refine (rat_any HR8.out).mono ?_
              rintro e w' ⟨rfl, hw⟩
              rw [hw]
              clear hw w'
              go_wp2_with fail
              refine (HLf.out w8 HR8.out).mono ?_
              rintro e w9 ⟨rfl, hs9⟩
              have HB9 : Hid (Below w.heap.size w w9) := HB8.out.trans (hs9.2.mono HB8.out.size)
              clear hs9
              go_wp2_with fail
              go_ret
              exact ⟨rfl, HB9.out⟩
          · exact (in3_end HI.out (by rw [HmS.out]; omega) hnl).elim
end Go.Proofs.YtlcjdofciogfaaaDoor
