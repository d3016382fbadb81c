/- Strings: their bytes; append(dst, s...); Writer.Text. -/
import Derived.Test.YtceljnkbkpgdjaaDoorRSeal
import Derived.Deep.AppendSrc
import Derived.Laws.IdiomStrings
import Derived.Laws.BytesArg
namespace Go.Proofs.YtceljnkbkpgdjaaDoor
open Go.RowKit
/-- a string's bytes -/
def sb (s : ByteArray) : List Nat := s.data.toList.map UInt8.toNat
/-- the string of some bytes -/
def mkS (zs : List Nat) : ByteArray := ⟨(zs.map UInt8.ofNat).toArray⟩
theorem sb_length (s : ByteArray) : (sb s).length = s.size := by
  unfold sb
  rw [List.length_map, Array.length_toList]
  rfl
theorem sb_small (s : ByteArray) : ∀ z ∈ sb s, z < 256 := by
  intro z hz
  obtain ⟨b, _, rfl⟩ := List.mem_map.1 hz
  exact b.toNat_lt
theorem byteCells_eq (s : ByteArray) : byteCells s = bvs (sb s) := by simp [byteCells, bvs, sb]
theorem sb_mkS {zs : List Nat} (h : ∀ z ∈ zs, z < 256) : sb (mkS zs) = zs := by
  unfold sb mkS
  simp only [List.map_map]
  conv => rhs; rw [← List.map_id zs]
  refine List.map_congr_left fun z hz => ?_
  simp only [Function.comp, id]
  exact UInt8.toNat_ofNat_of_lt' (h z hz)
theorem mkS_sb (s : ByteArray) : mkS (sb s) = s := by
  unfold mkS sb
  simp only [List.map_map]
  rw [show (UInt8.ofNat ∘ UInt8.toNat) = id from funext fun b => UInt8.ofNat_toNat]
  simp
theorem mkS_size (zs : List Nat) : (mkS zs).size = zs.length := by
  show (zs.map UInt8.ofNat).toArray.size = _
  simp
theorem run_append_str {w : World} {base g n cap : Nat} {xs : List Nat} (ty : TypeId) (s : ByteArray) (hown : Own w base (.slice (some ⟨g, 0, none⟩) n cap) xs) (hb : xs.length + s.size ≤ 1099511627776) (hbase : base ≤ w.heap.size) :
    ∃ v' w', (Builtin.append_ #[34, 9] ty #[.slice (some ⟨g, 0, none⟩) n cap, .string s]).run Tryd.prog w = .ok v' w' ∧ Own w' base v' (xs ++ sb s) ∧ w.grownBy w' (some g) ∧ (v'.ownBlock = some g ∨ v'.ownBlock = some w.heap.size) := by
  obtain ⟨i, hi, hz0, hz1, hz2⟩ := info_parts info_byte
  obtain rfl := hown.len
  have hlen : (bvs (xs ++ sb s)).length = (xs ++ sb s).length * 1 := by rw [bvs_length]; omega
  have hsl := sb_length s
  have hsrc : Src Tryd.prog i.size 9 (.string s) s.size (bvs (sb s)) w := by
    rw [hz1, ← byteCells_eq]
    exact Src.ofString w Tryd.underlying9 s
  rcases hown.2 with ⟨hv, _⟩ | ⟨g', cap', cur, hv, hbg, hg, hnc, hcm, hcs, ht⟩
  · cases hv
  · cases hv
    by_cases hroom : xs.length + s.size ≤ cap
    · have hu := run_underlying (w := w) Tryd.underlying34
      have hst := run_storeCells_at Tryd.prog g (xs.length * 1) 5 (bvs (sb s)) 0 cur w hg (by rw [bvs_length, hsl]; omega) (bvs_one _)
      rw [Nat.add_zero, Nat.mul_one, bvs_length, hsl] at hst
      refine ⟨.slice (some ⟨g, 0, none⟩) (xs.length + s.size) cap, w.setRow g (cur.toList.take xs.length ++ bvs (sb s) ++ cur.toList.drop (xs.length + s.size)).toArray, ?_, ?_, ?_, .inl rfl⟩
      · have hcl := hsrc.cells
        rw [hz1] at hcl
        simp [Builtin.append_, hu, sizeOf, typeInfo, hi, hz1, Builtin.lenOf, hroom, hcl, Addr.add_lit, hst]
      · refine ⟨hlen, .inr ⟨g, cap, _, by rw [List.length_append, hsl], hbg, setRow_heap w g cur _ _ _ hg, by rw [List.length_append, hsl]; exact hroom, hcm, ?_, ?_⟩⟩
        · simp [bvs_length, hsl]; omega
        · rw [Nat.mul_one] at ht
          rw [ht, bvs_append, List.length_append, Nat.mul_one]
          exact List.take_left' (by rw [List.length_append, bvs_length, bvs_length])
      · exact ⟨rfl, rfl, rfl, by simp, fun k _ hk => setRow_other w g k _ (fun e => hk (by rw [e]))⟩
    · have hfo := run_firstCells_some (P := Tryd.prog) w.drew i.size xs.length ⟨g, 0, none⟩ xs.length cap (bvs xs) (by rw [bvs_length, hz1]; omega) (hown.cells (g := g) rfl)
      have hr := run_append_grow_src (P := Tryd.prog) w 34 9 ty 5 i (.int .u8 0) Tryd.underlying34 hi hz0 (some ⟨g, 0, none⟩) xs.length cap (bvs xs) hfo (.string s) s.size (bvs (sb s)) hsrc (by omega) (by omega) (by rw [hz2]; exact growslice_fits (by omega) (by omega))
      have hge := grownCap_ge w (xs.length + s.size) cap 5
      have hle := grownCap_le_maxLen w (xs.length + s.size) cap 5 (by unfold maxLen; omega)
      refine ⟨_, _, hr, ⟨hlen, .inr ⟨w.heap.size, _, _, by rw [List.length_append, hsl], hbase, heap_alloc_new w.drew _, by rw [List.length_append, hsl]; exact hge, hle, ?_, ?_⟩⟩, ⟨rfl, rfl, rfl, by simp, fun k hk _ => Below.heap_alloc w.drew _ k hk⟩, .inr rfl⟩
      · simp [size_zeroCells, Value.cells, bvs_length, hsl]; omega
      · rw [Array.toList_append, bvs_append, List.length_append, Nat.mul_one]
        exact List.take_left' (by simp [bvs_length])
theorem wpList_append_str {w : World} {ops : Array Oper} {rest : List Oper} {o : Oper} {a : Act} {Q : Exit → Act → World → Prop} (s x : Operand) (hw : Region.wanted o (yielded ops a.tmps) = true)
    (ho : o.op = .call { callee := .builtin .append, args := #[s, x], argTypes := #[34, 9] })
    {base g n cap : Nat} {xs : List Nat} (str : ByteArray) (hs : a.eval s = .slice (some ⟨g, 0, none⟩) n cap) (hown : Own w base (.slice (some ⟨g, 0, none⟩) n cap) xs) (hx : a.eval x = .string str) (hb : xs.length + str.size ≤ 1099511627776) (hbase : base ≤ w.heap.size)
    (h : ∀ v' w', Own w' base v' (xs ++ sb str) → w.grownBy w' (some g) → (v'.ownBlock = some g ∨ v'.ownBlock = some w.heap.size) → wpList Tryd.prog ops Q rest (a.put o.dst v') w') : wpList Tryd.prog ops Q (o :: rest) a w := by
  refine wpList_step fun K hK => ?_
  rw [if_pos hw]
  obtain ⟨v', w', hr, h2, h3, h4⟩ := run_append_str o.type str hown hb hbase
  unfold Oper.wp execOp
  simp only [ho, resolve, invoke, builtin, Sem.run_bind, Sem.run_pure, Result.andThen_ok, List.map_toArray, List.map_cons, List.map_nil, hs, hx, hr]
  exact hK _ _ (h v' w' h2 h3 h4)
set_option maxRecDepth 100000 in
set_option maxHeartbeats 2000000 in
theorem wtext_any {w : World} {p base : Nat} {v : Value} {zs : List Nat} {s : ByteArray} (h : Wr w p v zs 0 base) (hs : s.size ≤ 65535) (hl : zs.length ≤ 549755813888) (hb : base ≤ w.heap.size) :
    Calls Tryd.prog 38 #[.pointer (some ⟨p, 0, none⟩), .string s] w fun e w' => e = .returned (.tuple #[]) ∧ ∃ v', Wr w' p v' (zs ++ (Pl.le 2 s.size ++ sb s)) 0 base ∧ Keeps (Foot p v) w w' ∧ At w v v' := by
  have c0 := h.cell0
  have c1 := h.cell1
  have HW : Hid (Wr w p v zs 0 base) := h
  have HC : Hid (Calls Tryd.prog 64 #[v, .int .u16 (s.size : Nat)] w fun e w' => ∃ v', e = .returned v' ∧ Own w' base v' (zs ++ Pl.le 2 s.size) ∧ Keeps (fun k => v.ownBlock = some k) w w' ∧ At w v v') := extend_u16 h.2.1 hs hl hb
  have hwr : IntKind.u16.wrap (s.size : Int) = (s.size : Int) := by rw [show IntKind.u16.wrap (s.size : Int) = (s.size : Int) % 65536 from rfl]; omega
  clear h
  go_enter Tryd.func38, Tryd.ntmps38
  go_wp2_with fail
  refine HC.out.mono ?_
  rintro e w1 ⟨v1, rfl, ho, hk, ha⟩
  have hlen1 : 0 < (zs ++ Pl.le 2 s.size).length := by rw [List.length_append, Pl.le_length]; omega
  have HLen : Hid ((zs ++ Pl.le 2 s.size).length = zs.length + 2) := by show _ = _; rw [List.length_append, Pl.le_length]
  obtain ⟨g, cap, hv1, hgb, hgl, _, _⟩ := ho.form hlen1
  subst hv1
  have HP : Hid (w1.heap[p]? = some (.cells #[v, .int .i64 0] 73 (0, 0))) := (hk.block p HW.out.lt HW.out.2.2.1).trans HW.out.1
  have HO : Hid (Own w1 base (.slice (some ⟨g, 0, none⟩) (zs ++ Pl.le 2 s.size).length cap) (zs ++ Pl.le 2 s.size)) := ho
  have HK : Hid (Keeps (fun k => v.ownBlock = some k) w w1) := hk
  have HA : Hid (At w v (.slice (some ⟨g, 0, none⟩) (zs ++ Pl.le 2 s.size).length cap)) := ha
  have HPg : Hid (g ≠ p) := fun e => HW.out.2.2.1 (ha.foot p HW.out.lt (by rw [← e]; rfl))
  have HBase : Hid (base ≤ w1.heap.size) := Nat.le_trans hb hk.size
  clear ho hk ha HC c0 c1 hlen1 hgb hgl
  generalize hn : (zs ++ Pl.le 2 s.size).length = n at *
  have HNn : Hid ((zs ++ Pl.le 2 s.size).length = n) := hn
  clear hn
  go_wp2_with (at_builtin; refine wpList_append_str (.tmp 12) (.tmp 13) (by rfl) rfl s rfl HO.out rfl (by rw [HNn.out, HLen.out]; omega) HBase.out ?_; intro v2 w2 h2 g2 l2; obtain ⟨ao, m, c, hv2⟩ : ∃ a m c, v2 = .slice a m c := (by rcases h2.2 with ⟨e, h0⟩ | ⟨g, c, _, e, _⟩ <;> exact ⟨_, _, _, e⟩); subst hv2; have HP2 : Hid (w2.heap[p]? = some (.cells #[v, .int .i64 0] 73 (0, 0))) := (g2.block p (Array.getElem?_eq_some_iff.1 HP.out).1 (fun e => HPg.out (Option.some.inj e).symm)).trans HP.out; have hc2 := cell0_of HP2.out; have ht2 := thawed_of HP2.out; have HO2 : Hid (Own w2 base (.slice ao m c) (zs ++ Pl.le 2 s.size ++ sb s)) := h2; have HG2 : Hid (w1.grownBy w2 (some g)) := g2; have HL2 : Hid ((Value.slice ao m c).ownBlock = some g ∨ (Value.slice ao m c).ownBlock = some w1.heap.size) := l2; clear h2 g2 l2)
  go_end0
  have hA2 : At w v (.slice ao m c) := HA.out.step HK.out.size HL2.out
  have hO := HO2.out
  rw [List.append_assoc] at hO
  refine ⟨rfl, _, Wr.store HP2.out hO (fun e => HW.out.2.2.1 (hA2.foot p HW.out.lt e)) (small_append HW.out.2.2.2 (small_append (Pl.le_small _ _) (sb_small s))), ?_, hA2⟩
  exact ((HK.out.mono (fun i _ e => Or.inr e)).trans (Keeps.of_grown HG2.out) (fun i hi e => Or.inr (HA.out.foot i hi e))).trans (Keeps.setCell w2 p 0 _) (fun i _ e => .inl e)
set_option maxHeartbeats 400000 in
theorem wtext_long {w : World} {p base : Nat} {v : Value} {zs : List Nat} {s : ByteArray} (h : Wr w p v zs 0 base) (hs : 65535 < s.size) :
    Calls Tryd.prog 38 #[.pointer (some ⟨p, 0, none⟩), .string s] w fun e w' => e = .returned (.tuple #[]) ∧ Wr w' p v zs 3 base ∧ Keeps (fun k => k = p) w w' := by
  have c1 := h.cell1
  have t1 := h.thawed 1
  have HW : Hid (Wr w p v zs 0 base) := h
  clear h
  go_enter Tryd.func38, Tryd.ntmps38
  go_wp2
  go_end0
  exact ⟨rfl, HW.out.refuse 3, Keeps.setCell w p 1 _⟩
set_option maxHeartbeats 400000 in
theorem wtext_not {w : World} {p base : Nat} {why : Int} {v : Value} {zs : List Nat} {s : ByteArray} (h : Wr w p v zs why base) (hw : why ≠ 0) :
    Calls Tryd.prog 38 #[.pointer (some ⟨p, 0, none⟩), .string s] w fun e w' => e = .returned (.tuple #[]) ∧ w' = w := by
  have c1 := h.cell1
  have hb : (why != 0) = true := by simpa using hw
  clear h
  go_enter Tryd.func38, Tryd.ntmps38
  go_wp2
  go_end0
  exact ⟨rfl, rfl⟩
end Go.Proofs.YtceljnkbkpgdjaaDoor
