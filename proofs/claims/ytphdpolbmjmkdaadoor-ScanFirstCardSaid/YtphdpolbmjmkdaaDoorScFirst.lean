/- ScanFirst, walked. -/
import Derived.Test.YtphdpolbmjmkdaaDoorScFst3
import Derived.Test.YtphdpolbmjmkdaaDoorScKnown
import Derived.Lib.Hide
import Derived.Lib.AppendStr
import Derived.Deep.RegionHeld3
import Derived.Deep.DeepCutAuto
import Derived.Deep.CutBlock
namespace Go.Proofs.YtphdpolbmjmkdaaDoor
open Go.RowKit Sc
theorem strCells_sb (s : ByteArray) : Lib.strCells s = bvs (sb s) := by
  unfold Lib.strCells bvs sb
  rw [List.map_map]
  rfl
theorem step_append_str {w : World} {ops : Array Oper} {o : Oper} {a : Act} {K : Act → World → Prop} {Q : Exit → Act → World → Prop} {E : Prop} (hw : Region.wanted o (yielded ops a.tmps) = true) (s x : Operand)
    (ho : o.op = .call { callee := .builtin .append, args := #[s, x], argTypes := #[22, 9] })
    {base : Nat} {v : Value} {t : ByteArray} {xs : List Nat} (hs : a.eval s = v) (hown : Own w base v xs) (hx : a.eval x = .string t) (hb : xs.length + t.size ≤ 1099511627776) (hbase : base ≤ w.heap.size)
    (h : ∀ v' w', Own w' base v' (xs ++ sb t) → w.grownBy w' v.ownBlock → K (a.put o.dst v') w') : if Region.wanted o (yielded ops a.tmps) = true then Oper.wp Tryd.prog o a w K Q else E := by
  rw [if_pos hw]
  obtain ⟨i, hi, hz0, hz1, hz2⟩ := info_parts info_byte
  obtain ⟨v', w', hr, h2, h3, _⟩ := Lib.run_append_own_string (P := Tryd.prog) (w := w) base 22 9 o.type 5 i Tryd.underlying22 Tryd.underlying9 hi hz0 hz1 hz2 v xs.length (bvs xs) hown t (by unfold maxLen; omega) (by omega) hbase
  unfold Oper.wp execOp
  simp only [ho, resolve, invoke, builtin, Sem.run_bind, Sem.run_pure, Result.andThen_ok, List.map_toArray, List.map_cons, List.map_nil, hs, hx, hr]
  refine h v' w' ?_ h3
  unfold Own
  rw [List.length_append, sb_length, bvs_append, ← strCells_sb]
  exact h2
/-- which of the first ends go on -/
def goesB (src : List Nat) (p k : Nat) : Bool := (endsL.take k).any fun e => decide ((tokens (src.take p ++ e)).2.2 = 0)
theorem goes_next {src : List Nat} {p k : Nat} (h : k < 8) : goesB src p (k + 1) = (goesB src p k || decide ((tokens (src.take p ++ endsL.getD k [])).2.2 = 0)) := by
  unfold goesB
  have hl : k < endsL.length := h
  rw [List.take_succ_eq_append_getElem hl, List.any_append, List.getD_eq_getElem?_getD, List.getElem?_eq_getElem hl]
  simp
theorem goes_all {src : List Nat} {p : Nat} (h : ∃ e ∈ endsL, ∃ us, tokens (src.take p ++ e) = (us, 0, 0)) : goesB src p 8 = true := by
  obtain ⟨e, he, us, hu⟩ := h
  unfold goesB
  rw [List.take_of_length_le (by decide), List.any_eq_true]
  exact ⟨e, he, by rw [hu]; rfl⟩
/-- the ends lie in a block -/
def EndsAt (w : World) (b : Nat) : Prop := ∀ j, j < 8 → w.cell? ⟨b, j, none⟩ = some (.string (mkS (endsL.getD j [])))
set_option maxRecDepth 100000 in
set_option maxHeartbeats 2000000 in
theorem first_walk {w : World} {v v1 : Value} {src tail : List Nat} (ht : Tabs w) (h9 : 7 ≤ w.heap.size) (hs : Sl w v src) (hv : ∀ k, v.ownBlock = some k → k < w.heap.size) (hs1 : Sl w v1 tail) :
    Calls Tryd.prog 3 #[v, v1] w fun e w' => e = .returned (.bool true) ∧ Below w.heap.size w w' := by
  have HK : Hid (∀ W, Below w.heap.size w W → Calls Tryd.prog 5 #[] W fun e w' => e = .returned (.bool true) ∧ Below W.heap.size W w') := fun W hW => known_any (ht.below hW) (Nat.le_trans h9 hW.size)
  have HTk := Lib.hid (tokens_any ht hs hv h9)
  have HTa : Hid (∀ W v zs, Below w.heap.size w W → Sl W v zs → (∀ k, v.ownBlock = some k → k < W.heap.size) → Calls Tryd.prog 6 #[v] W fun e w' => ∃ lv, e = .returned (.tuple #[lv, .int .i64 ((tokens zs).2.1 : Nat), .int .i64 ((tokens zs).2.2 : Nat)]) ∧ OwnT w' W.heap.size lv (tokens zs).1 ∧ Below W.heap.size W w') := fun W v zs hW hs hv => tokens_any (ht.below hW) hs hv (Nat.le_trans h9 hW.size)
  have HS : Hid (Sl w v src) := hs
  have HS1 : Hid (Sl w v1 tail) := hs1
  clear ht h9 hs hv hs1
  obtain ⟨ao, cap, rfl, hcap, hmax, z1, z2, z3⟩ := HS.out
  obtain ⟨ao1, cap1, rfl, y0, y1, y2, y3, y4⟩ := HS1.out
  have HCp : Hid (src.length ≤ cap ∧ cap ≤ maxLen) := ⟨hcap, hmax⟩
  clear hcap hmax z1 z2 z3 y0 y1 y2 y3 y4
  obtain ⟨M, hM⟩ : ∃ M, src.length = M := ⟨_, rfl⟩
  obtain ⟨M1, hM1⟩ : ∃ M1, tail.length = M1 := ⟨_, rfl⟩
  have HM : Hid (src.length = M) := hM
  have HM1 : Hid (tail.length = M1) := hM1
  rw [hM, hM1]
  rw [hM] at HTk
  clear hM hM1
  by_cases hbig : 100000 < M ∨ 100000 < M1
  · clear HTk HTa HS HS1 HCp HM HM1
    by_cases h1 : 100000 < M
    · have i0 : (100000 : Int) < (M : Int) := by omega
      clear h1 hbig
      go_enter Tryd.func3, Tryd.ntmps3
      go_wp2_with fail
      refine (HK.out _ (Below.refl _ _)).mono ?_
      rintro e w2 ⟨rfl, hb2⟩
      go_wp2_with fail
      go_ret
      exact ⟨rfl, hb2⟩
    · have i0 : ¬ (100000 : Int) < (M : Int) := by omega
      have i1 : (100000 : Int) < (M1 : Int) := by omega
      clear h1 hbig
      go_enter Tryd.func3, Tryd.ntmps3
      go_wp2_with fail
      refine (HK.out _ (Below.refl _ _)).mono ?_
      rintro e w2 ⟨rfl, hb2⟩
      go_wp2_with fail
      go_ret
      exact ⟨rfl, hb2⟩
  · have i0 : ¬ (100000 : Int) < (M : Int) := by omega
    have i1 : ¬ (100000 : Int) < (M1 : Int) := by omega
    have HLs : Hid (M ≤ 100000 ∧ M1 ≤ 100000) := ⟨by omega, by omega⟩
    clear hbig
    cases hx : tokens src with
    | mk ts rest =>
      obtain ⟨p, er⟩ := rest
      rw [hx] at HTk
      by_cases he : er = 0
      · subst he
        obtain rfl : p = 0 := by
          unfold tokens at hx
          split at hx
          · cases hx
          · split at hx
            · cases hx; rfl
            · cases hx
        clear hx HTa HS HS1 HCp HM HM1 HLs
        go_enter Tryd.func3, Tryd.ntmps3
        go_wp2_with fail
        refine HTk.out.mono ?_
        rintro e w2 ⟨lv, rfl, ho2, hb2⟩
        have HB2 : Hid (Below w.heap.size w w2) := hb2
        obtain ⟨la, lc, rfl⟩ := ho2.form
        clear ho2 hb2 HTk
        go_wp2_with fail
        refine (HK.out _ HB2.out).mono ?_
        rintro e w3 ⟨rfl, hb3⟩
        go_wp2_with fail
        go_ret
        exact ⟨rfl, HB2.out.trans (hb3.mono HB2.out.size)⟩
      · obtain ⟨e60, hp, hbad, hgo⟩ := tokens_first hx (by rw [HM.out]; exact HLs.out.1) he
        subst e60
        rw [HM.out] at hp hbad
        have HG : Hid (goesB src p 8 = true) := goes_all hgo
        have HBd : Hid (p < M → tokens (src.take (p + 1) ++ tail) = ([], p, 60)) := fun h => hbad h tail (by rw [HM1.out]; exact HLs.out.2)
        have hpos : 0 < M := by
          refine Nat.pos_of_ne_zero fun h0 => ?_
          have : src = [] := List.eq_nil_of_length_eq_zero (by rw [HM.out]; exact h0)
          rw [this] at hx
          have h2 : tokens ([] : List Nat) = ([], 0, 0) := by decide
          rw [h2] at hx
          cases hx
        have hcp := HCp.out
        rw [HM.out] at hcp
        obtain ⟨b, o, cap', hv, q1, q2, hz, hcs⟩ := HS.out.pos (by rw [HM.out]; omega)
        cases hv
        have HSw : Hid (∀ W n, Below w.heap.size w W → n ≤ M → Sl W (.slice (some ⟨b, o, none⟩) n cap) (src.take n)) := fun W n hW h => (Sl.front HS.out n (by rw [HM.out]; exact h)).below hW
        have j1 : ¬ (p : Int) < 0 := by omega
        have j2 : ¬ (M : Int) < (p : Int) := by omega
        have j3 : (p : Int) ≤ (cap : Int) := by omega
        have j4 : (0 : Int) ≤ (p : Int) := by omega
        have j5 : decide ((p : Int) < 0) = false := decide_eq_false j1
        have j6 : decide (M < p) = false := decide_eq_false (by omega)
        have HPm : Hid (p ≤ M ∧ M ≤ cap ∧ cap ≤ maxLen) := ⟨hp, hcp.1, hcp.2⟩
        clear hx he hbad hgo hcp q1 q2 hz hcs hp hpos
        go_enter Tryd.func3, Tryd.ntmps3
        go_wp2_with fail
        refine HTk.out.mono ?_
        rintro e w2 ⟨lv, rfl, ho2, hb2⟩
        have HB2 : Hid (Below w.heap.size w w2) := hb2
        obtain ⟨la, lc, rfl⟩ := ho2.form
        clear ho2 hb2 HTk
        go_wp2_with fail
        go_loopw [9, 10] (fun gv iv wr => ∃ k : Nat, k ≤ 8 ∧ iv = .int .i64 (k : Int) ∧ (∃ g, gv = .bool g ∧ Hid (g = goesB src p k)) ∧ Hid (Below w2.heap.size w2 wr) ∧ Hid (EndsAt wr w2.heap.size)) (fun _ iv _ => 8 - (intOf iv).toNat)
        case atStart =>
          refine ⟨0, by omega, rfl, ⟨false, rfl, rfl⟩, (Below.refl _ _).alloc (Nat.le_refl _) _, ?_⟩
          intro j hj
          have hh : ∀ X, (w2.alloc X).heap[w2.heap.size]? = some X := fun X => heap_alloc_new w2 X
          rw [cell_of_row _ _ j _ _ _ (hh _)]
          have hall : ∀ t : Fin 8, (#[Value.string ⟨#[]⟩, Value.string ⟨#[34]⟩, Value.string ⟨#[110, 34]⟩, Value.string ⟨#[48, 48, 34]⟩, Value.string ⟨#[48, 34]⟩, Value.string ⟨#[48]⟩, Value.string ⟨#[46]⟩, Value.string ⟨#[61]⟩] : Array Value)[t.val]? = some (.string (mkS (endsL.getD t.val []))) := by
            intro t
            match t with
            | ⟨0, _⟩ => rfl
            | ⟨1, _⟩ => rfl
            | ⟨2, _⟩ => rfl
            | ⟨3, _⟩ => rfl
            | ⟨4, _⟩ => rfl
            | ⟨5, _⟩ => rfl
            | ⟨6, _⟩ => rfl
            | ⟨7, _⟩ => rfl
          exact hall ⟨j, hj⟩
        case round =>
          obtain ⟨k, hk, rfl, ⟨gk, rfl, HGk⟩, HBr, HEn⟩ := hrel
          by_cases hlt : k < 8
          · have HBw : Hid (Below w.heap.size w wr) := HB2.out.trans (HBr.out.mono HB2.out.size)
            have ce := HEn.out k hlt
            have hbl : w2.heap.size < wr.heap.size := World.block_lt_of_cell? wr ⟨w2.heap.size, k, none⟩ ce
            have ik : (k : Int) < 8 := by omega
            have ik0 : (0 : Int) ≤ (k : Int) := by omega
            have HGn : Hid (goesB src p (k + 1) = (gk || decide ((tokens (src.take p ++ endsL.getD k [])).2.2 = 0))) := by show _ = _; rw [HGk.out]; exact goes_next hlt
            have hel : ∀ t : Fin 8, (endsL.getD t.val []).length ≤ 3 ∧ ∀ z ∈ endsL.getD t.val [], z < 256 := by decide
            have hes := hel ⟨k, hlt⟩
            have hsb : sb (mkS (endsL.getD k [])) = endsL.getD k [] := sb_mkS hes.2
            have HSb : Hid (sb (mkS (endsL.getD k [])) = endsL.getD k [] ∧ (mkS (endsL.getD k [])).size ≤ 3 ∧ ∀ z ∈ endsL.getD k [], z < 256) := ⟨hsb, by rw [← sb_length, hsb]; exact hes.1, hes.2⟩
            have HSd : Hid (Sl wr.drew (.slice (some ⟨b, o, none⟩) p cap) (src.take p)) := HSw.out _ p HBw.out.drew HPm.out.1
            have HLp : Hid ((src.take p).length ≤ 100000 ∧ ∀ z ∈ src.take p, z < 256) := ⟨by have := HLs.out.1; have := HM.out; rw [List.length_take]; omega, fun z hz => HS.out.small z (List.mem_of_mem_take hz)⟩
            clear hel hes hsb hk
            clear HGk
            generalize endsL.getD k [] = ek at *
            generalize src.take p = P at *
            go_wp2_with fail
            go_region_held3 (fun W => W.cell? ⟨w2.heap.size, k, none⟩ = some (.string (mkS ek))) (assumption) (first
              | (refine step_append_sl (v := .slice none 0 0) (by kernel_rfl) (.const (.slice none 0 0)) (.tmp 61) (by rfl) (by rfl) (own_nil _ wr.heap.size) (by rfl) HSd.out (by have := HLp.out.1; simp only [List.length_nil]; omega) (Nat.le_refl _) ?_; intro v3 w3 h3 g3 l3; have HO3 : Hid (Own w3 wr.heap.size v3 P) := h3; have HB3 : Hid (Below wr.heap.size wr w3) := (Below.refl _ _).drew.trans (below_grown g3 (Nat.le_refl _) (fun k hk => by cases hk)); have ce3 : w3.cell? ⟨w2.heap.size, k, none⟩ = some (.string (mkS ek)) := (HB3.out.cell (p := ⟨w2.heap.size, k, none⟩) hbl).trans ce; clear h3 g3 l3)
              | (refine step_append_str (v := v3) (by kernel_rfl) (.tmp 62) (.tmp 66) (by rfl) (by rfl) HO3.out (by rfl) (by have := HLp.out.1; have := HSb.out.2.1; omega) HB3.out.size ?_; intro v4 w4 h4 g4; have HO4 : Hid (Own w4 wr.heap.size v4 (P ++ ek)) := (by rw [HSb.out.1] at h4; exact h4); have HB4 : Hid (Below wr.heap.size wr w4) := HB3.out.trans (below_grown g4 HB3.out.size (fun k hk => (HO3.out.lt k hk).1)); have ce4 : w4.cell? ⟨w2.heap.size, k, none⟩ = some (.string (mkS ek)) := (HB4.out.cell (p := ⟨w2.heap.size, k, none⟩) hbl).trans ce; clear h4 g4)
              | (go_at_call 6; refine (HTa.out w4 v4 (P ++ ek) (HBw.out.trans (HB4.out.mono HBw.out.size)) (HO4.out.sl (fun z hz => (List.mem_append.1 hz).elim (HLp.out.2 z) (HSb.out.2.2 z))) (fun j hj => (HO4.out.lt j hj).2)).mono ?_; rintro e w5 ⟨lv5, rfl, ho5, hb5⟩; have HB5 : Hid (Below wr.heap.size wr w5) := HB4.out.trans (hb5.mono HB4.out.size); have ce5 : w5.cell? ⟨w2.heap.size, k, none⟩ = some (.string (mkS ek)) := (HB5.out.cell (p := ⟨w2.heap.size, k, none⟩) hbl).trans ce; clear ho5 hb5))
            have HBn : Hid (Below w2.heap.size w2 w5) := HBr.out.trans (HB5.out.mono HBr.out.size)
            have HEm : Hid (EndsAt w5 w2.heap.size) := fun j hj => (HB5.out.cell (p := ⟨w2.heap.size, j, none⟩) hbl).trans (HEn.out j hj)
            clear ce ce3 ce4 ce5 HO3 HO4 HB3 HB4 HEn HSd
            generalize (tokens (P ++ ek)).2.2 = E at *
            obtain ⟨bE, hbE⟩ : ∃ x, ((E : Int) == 0) = x := ⟨_, rfl⟩
            have HX : Hid (goesB src p (k + 1) = (gk || bE)) := by
              show _ = _
              rw [HGn.out, ← hbE]
              congr 1
              by_cases hE : E = 0
              · subst hE; rfl
              · rw [decide_eq_false hE]; symm; exact beq_eq_false_iff_ne.2 (fun e => hE (by omega))
            clear HGn
            generalize (tokens (P ++ ek)).2.1 = A at *
            cases gk with
            | true =>
              go_wp2_with fail
              exact ⟨⟨k + 1, by omega, by go_num, ⟨_, rfl, HX.out.symm⟩, HBn, HEm⟩, by simp only [intOf]; omega⟩
            | false =>
              go_wp2_with fail
              exact ⟨⟨k + 1, by omega, by go_num, ⟨_, rfl, HX.out.symm⟩, HBn, HEm⟩, by simp only [intOf]; omega⟩
          · obtain rfl : k = 8 := by omega
            obtain rfl : gk = true := HGk.out.trans HG.out
            clear HGk HG
            have HBw : Hid (Below w.heap.size w wr) := HB2.out.trans (HBr.out.mono HB2.out.size)
            clear HEn hlt hk
            by_cases hpM : p = M
            · have ip : ((p : Int) == (M : Int)) = true := by rw [hpM]; exact beq_self_eq_true _
              clear HBd
              go_wp2_with fail
              refine (HK.out _ HBw.out).mono ?_
              rintro e w5 ⟨rfl, hb5⟩
              go_wp2_with fail
              go_ret
              exact ⟨rfl, HBw.out.trans (hb5.mono HBw.out.size)⟩
            · have ip : ((p : Int) == (M : Int)) = false := beq_eq_false_iff_ne.2 (fun e => hpM (by omega))
              have htk := HBd.out (by have := HPm.out.1; omega)
              have HTt : Hid (∀ W v, Below w.heap.size w W → Sl W v (src.take (p + 1) ++ tail) → (∀ k, v.ownBlock = some k → k < W.heap.size) → Calls Tryd.prog 6 #[v] W fun e w' => ∃ la lc, e = .returned (.tuple #[.slice la 0 lc, .int .i64 (p : Int), .int .i64 60]) ∧ Below W.heap.size W w') := fun W v h1 h2 h3 => by
                have hx := HTa.out W v _ h1 h2 h3
                rw [htk] at hx
                refine hx.mono ?_
                rintro e w' ⟨lv, rfl, h4, h5⟩
                obtain ⟨la, lc, rfl⟩ := h4.form
                exact ⟨la, lc, rfl, h5⟩
              have HSd : Hid (Sl wr (.slice (some ⟨b, o, none⟩) (p + 1) cap) (src.take (p + 1))) := HSw.out _ (p + 1) HBw.out (by have := HPm.out.1; omega)
              have HSt : Hid (∀ W, Below wr.heap.size wr W → Sl W (.slice ao1 M1 cap1) tail) := fun W hW => by
                have := HS1.out.below (HBw.out.trans (hW.mono HBw.out.size))
                rwa [HM1.out] at this
              have HLp : Hid ((src.take (p + 1)).length ≤ 100000 ∧ (∀ z ∈ src.take (p + 1), z < 256) ∧ tail.length ≤ 100000 ∧ ∀ z ∈ tail, z < 256) := ⟨by have := HLs.out.1; have := HM.out; rw [List.length_take]; omega, fun z hz => HS.out.small z (List.mem_of_mem_take hz), by rw [HM1.out]; exact HLs.out.2, HS1.out.small⟩
              have k1 : (p : Int) + 1 ≤ (cap : Int) := by have := HPm.out; omega
              have k2 : (0 : Int) ≤ (p : Int) + 1 := by omega
              have k3 : ((p : Int) + 1).toNat = p + 1 := by omega
              have k4 : IntKind.i64.wrap ((p : Int) + 1) = (p : Int) + 1 := by rw [IntKind.wrap_i64]; omega
              have k5 : wrap64 ((p : Int) + 1) = (p : Int) + 1 := by unfold wrap64; omega
              clear htk HBd HTa hpM
              generalize src.take (p + 1) = P at *
              go_wp2_with (first
                | (at_builtin; refine wpList_append_sl (v := .slice none 0 0) (.const (.slice none 0 0)) (.tmp 89) (by rfl) rfl rfl (own_nil _ wr.heap.size) rfl HSd.out (by have := HLp.out.1; simp only [List.length_nil]; omega) (Nat.le_refl _) ?_; intro v3 w3 h3 g3 l3; have HO3 : Hid (Own w3 wr.heap.size v3 P) := h3; have HB3 : Hid (Below wr.heap.size wr w3) := below_grown g3 (Nat.le_refl _) (fun k hk => by cases hk); clear h3 g3 l3)
                | (at_builtin; refine wpList_append_sl (v := v3) (.tmp 90) (.tmp 91) (by rfl) rfl rfl HO3.out rfl (HSt.out w3 HB3.out) (by have := HLp.out.1; have := HLp.out.2.2.1; omega) HB3.out.size ?_; intro v4 w4 h4 g4 l4; have HO4 : Hid (Own w4 wr.heap.size v4 (P ++ tail)) := h4; have HB4 : Hid (Below wr.heap.size wr w4) := HB3.out.trans (below_grown g4 HB3.out.size (fun k hk => (HO3.out.lt k hk).1)); clear h4 g4 l4))
              refine (HTt.out w4 v4 (HBw.out.trans (HB4.out.mono HBw.out.size)) (HO4.out.sl (fun z hz => (List.mem_append.1 hz).elim (HLp.out.2.1 z) (HLp.out.2.2.2 z))) (fun j hj => (HO4.out.lt j hj).2)).mono ?_
              rintro e w5 ⟨la5, lc5, rfl, hb5⟩
              have HB5 : Hid (Below wr.heap.size wr w5) := HB4.out.trans (hb5.mono HB4.out.size)
              clear hb5
              have HBz : Hid (Below w.heap.size w w5) := HBw.out.trans (HB5.out.mono HBw.out.size)
              go_wp2_with fail
              refine (HK.out _ HBz.out).mono ?_
              rintro e w6 ⟨rfl, hb6⟩
              go_wp2_with fail
              go_ret
              exact ⟨rfl, HBz.out.trans (hb6.mono HBz.out.size)⟩
end Go.Proofs.YtphdpolbmjmkdaaDoor
