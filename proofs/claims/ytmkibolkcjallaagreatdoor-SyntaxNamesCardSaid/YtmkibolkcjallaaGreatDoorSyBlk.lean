/- block: an empty one; one whose first item is none. Own work. -/
import Derived.Test.YtmkibolkcjallaaGreatDoorSyIn
import Derived.Maps.AppendAt
namespace Go.Proofs.YtmkibolkcjallaaGreatDoor
open Go.RowKit Sc
theorem info_intK : (Tryz.prog.info? 3).map (fun i => (i.zero, i.size, i.bytes)) = some (some (.int .i64 0), 1, 8) := by kernel_rfl
/-- append of one number to no list -/
theorem run_appK {w : World} {x : Int} {g cap : Nat} (ty : TypeId) (h0 : w.cell? ⟨g, 0, none⟩ = some (.int .i64 x)) :
    ∃ v' w', (Builtin.append_ #[22, 22] ty #[.slice none 0 0, .slice (some ⟨g, 0, none⟩) 1 cap]).run Tryz.prog w = .ok v' w' ∧ w.grownBy w' none := by
  obtain ⟨i, hi, hz0, hz1, hz2⟩ := info_parts info_intK
  obtain ⟨v', w', a1, a2, a3, _⟩ := run_append_own_at (P := Tryz.prog) w w.heap.size 22 ty 3 i (.int .i64 0) 1 8 Tryz.underlying22 hi hz0 hz1 hz2 rfl (by omega) (.slice none 0 0) 0 [] ⟨rfl, .inl ⟨rfl, rfl⟩⟩ ⟨g, 0, none⟩ 1 cap [.int .i64 x] rfl (fun j u hj => by
    rw [Addr.add_lit, Nat.zero_add]
    match j, hj with
    | 0, hj => rw [h0]; exact hj) (by intro u hu; obtain rfl := List.mem_singleton.1 hu; rfl) (by unfold maxLen; omega) (by omega) (Nat.le_refl _)
  exact ⟨v', w', a1, a3⟩
theorem wpList_appK {ops : Array Oper} {rest : List Oper} {o : Oper} {a : Act} {w : World} {Q : Exit → Act → World → Prop} (hgd : o.guard = none) (s x : Operand)
    (ho : o.op = .call { callee := .builtin .append, args := #[s, x], argTypes := #[22, 22] }) {y : Int} {g cap : Nat} (hs : a.eval s = .slice none 0 0) (hx : a.eval x = .slice (some ⟨g, 0, none⟩) 1 cap) (h0 : w.cell? ⟨g, 0, none⟩ = some (.int .i64 y))
    (h : ∀ v' w', w.grownBy w' none → wpList Tryz.prog ops Q rest (a.put o.dst v') w') : wpList Tryz.prog ops Q (o :: rest) a w :=
  wpList_plain hgd fun K hK => by
    obtain ⟨v', w', hr, h3⟩ := run_appK o.type h0 (cap := cap)
    unfold Oper.wp execOp
    simp only [ho, resolve, invoke, builtin, Sem.run_bind, Sem.run_pure, Result.andThen_ok, List.map_toArray, List.map_cons, List.map_nil, hs, hx, hr]
    exact hK _ _ (h v' w' h3)
theorem Mv.grown {pb base : Nat} {a w w' : World} (h : Mv pb base a w) (hg : w.grownBy w' none) : Mv pb base a w' :=
  h.trans ⟨(Keeps.of_grown hg).mono (fun _ _ e => by cases e), fun k c t z _ _ hk => (hg.block k (Array.getElem?_eq_some_iff.1 hk).1 (fun e => by cases e)).trans hk⟩
theorem Lx.mv {w w' : World} {pb base b o cap n g off m lc p q : Nat} {par : Par} {ws : List ByteArray} {zs : List Nat} (h : Lx w pb base b o cap n g off m lc p q par ws zs) {S : Nat → Prop} (k : Keeps S w w') (hS : ∀ i, ¬ S i) : Lx w' pb base b o cap n g off m lc p q par ws zs :=
  ⟨h.parB.keeps k (hS _), h.next.keeps k (hS _), h.sl.keeps k (fun _ _ => hS _), h.apart, h.own.keeps k (fun _ _ => hS _), h.low, Nat.le_trans h.top k.size⟩
set_option maxRecDepth 100000 in
set_option maxHeartbeats 4000000 in
theorem block_none {w : World} {pb base b o cap g lc : Nat} {zs : List Nat} {ts : List Tok} {k : Nat} {par : Par} {fn : Fn} {cs ds : Array Value} (h : Rt w pb base b o cap g lc zs ts k par []) (hk : k < ts.length) (hk1 : k + 1 < ts.length) (hp : ts[k].at_ < ts[k].end_) (hq : ts[k].end_ ≤ zs.length) (hz : mkS (lexB zs ts[k]) = ⟨#[123]⟩) (hp1 : ts[k + 1].at_ < ts[k + 1].end_) (hq1 : ts[k + 1].end_ ≤ zs.length) (hz1 : mkS (lexB zs ts[k + 1]) = ⟨#[125]⟩) (hkd : ts[k].kind = 4) (hkd1 : ts[k + 1].kind = 5) (ho : par.open_ = 0) :
    Calls Tryz.prog 17 #[.pointer (some ⟨pb, 0, none⟩), .func fn cs ds] w fun e w' => e = .returned (.slice none 0 0) ∧ ∃ v wv v' wv', Rt w' pb base b o cap g lc zs ts (k + 1 + 1) ((par.past ts[k] v wv).past ts[k + 1] v' wv') [] ∧ Mv pb base w w' := by
  have HN := Lib.hid (needs_yes ⟨#[123]⟩ h hk hp hq hz (by omega) (by rw [hkd, ho]; decide) (by simp))
  have HT : Hid (∀ w1 v1 u1, Rt w1 pb base b o cap g lc zs ts (k + 1) (par.past ts[k] v1 u1) [] → Calls Tryz.prog 27 #[.pointer (some ⟨pb, 0, none⟩), .string ⟨#[125]⟩] w1 fun e w' => e = .returned (.bool true) ∧ ∃ v wv, Rt w' pb base b o cap g lc zs ts (k + 1 + 1) ((par.past ts[k] v1 u1).past ts[k + 1] v wv) [] ∧ Mv pb base w1 w') := fun w1 v1 u1 h1 => takes_yes ⟨#[125]⟩ h1 hk1 hp1 hq1 hz1 (by simp [Par.past, openN, hkd, ho]) (by simp [Par.past, openN, hkd, hkd1, ho]) (by simp)
  clear h hp hq hz hp1 hq1 hz1 hkd hkd1 ho
  go_enter Tryz.func17, Tryz.ntmps17
  go_wp2_with fail
  refine HN.out.mono ?_
  rintro e w1 ⟨rfl, v1, u1, h1, hm1⟩
  have H1 := Lib.hid h1
  have HM1 := Lib.hid hm1
  clear h1 hm1 HN
  go_wp2_with fail
  go_loopw [5] (fun kids wr => kids = .slice none 0 0 ∧ wr = w1) (fun _ _ => 0)
  case atStart => exact ⟨rfl, rfl⟩
  case round =>
    obtain ⟨rfl, rfl⟩ := hrel
    go_wp2_with fail
    refine (HT.out _ _ _ H1.out).mono ?_
    rintro e w2 ⟨rfl, v2, u2, h2, hm2⟩
    have H2 := Lib.hid h2
    have HM2 := Lib.hid hm2
    clear h2 hm2
    go_wp2_with fail
    go_ret
    exact ⟨rfl, v1, u1, v2, u2, H2.out, HM1.out.trans HM2.out⟩
set_option maxRecDepth 100000 in
set_option maxHeartbeats 4000000 in
theorem block_bad {w : World} {pb base b o cap g lc : Nat} {zs : List Nat} {ts : List Tok} {k : Nat} {par : Par} (h : Rt w pb base b o cap g lc zs ts k par []) (hk : k < ts.length) (hk1 : k + 1 < ts.length) (hp : ts[k].at_ < ts[k].end_) (hq : ts[k].end_ ≤ zs.length) (hz : mkS (lexB zs ts[k]) = ⟨#[123]⟩) (hp1 : ts[k + 1].at_ < ts[k + 1].end_) (hq1 : ts[k + 1].end_ ≤ zs.length) (hno : ∀ t ∈ kwInner ++ kwGroup, mkS (lexB zs ts[k + 1]) ≠ t) (hno2 : mkS (lexB zs ts[k + 1]) ≠ ⟨#[103, 114, 111, 117, 112]⟩) (hno3 : mkS (lexB zs ts[k + 1]) ≠ ⟨#[125]⟩) (hkd : ts[k].kind = 4) (ho : par.open_ = 0) (hit : par.top = .slice none 0 0) (hzl : zs.length ≤ 1048576) :
    Calls Tryz.prog 17 #[.pointer (some ⟨pb, 0, none⟩), .func (.func 18) #[.pointer (some ⟨pb, 0, none⟩)] #[]] w fun e w' => e = stopE 60 ∧ ∃ par', ParB w' pb par' ∧ par'.wrong = (ts[k + 1].at_ : Int) + (rightN ([⟨#[125]⟩] ++ [⟨#[103, 114, 111, 117, 112]⟩] ++ kwInner ++ kwGroup) (lexB zs ts[k + 1]) : Nat) ∧ par'.why = 60 ∧ Mv pb base w w' := by
  have HN := Lib.hid (needs_yes ⟨#[123]⟩ h hk hp hq hz (by omega) (by rw [hkd, ho]; decide) (by simp))
  have HX : Hid (∀ w1 v1 u1, Rt w1 pb base b o cap g lc zs ts (k + 1) (par.past ts[k] v1 u1) [] → Lx w1 pb base b o cap zs.length g ((k + 1) * 5) (ts.length - (k + 1)) (lc - (k + 1)) ts[k + 1].at_ ts[k + 1].end_ (par.past ts[k] v1 u1) [] (lexB zs ts[k + 1])) := fun w1 v1 u1 h1 => h1.lx hk1 hp1 hq1
  have HNo : Hid (∀ t ∈ kwInner ++ kwGroup, mkS (lexB zs ts[k + 1]) ≠ t) := hno
  have HN2 : Hid (mkS (lexB zs ts[k + 1]) ≠ ⟨#[103, 114, 111, 117, 112]⟩) := hno2
  have HN3 : Hid (mkS (lexB zs ts[k + 1]) ≠ ⟨#[125]⟩) := hno3
  have HIt : Hid (par.top = .slice none 0 0) := hit
  have HLn : Hid ((lexB zs ts[k + 1]).length ≤ 1048576 ∧ ts[k + 1].at_ ≤ 1048576) := ⟨by simp only [lexB, List.length_take, List.length_drop]; omega, by omega⟩
  clear h hp hq hz hp1 hq1 hno hno2 hno3 hkd ho hit hzl
  go_enter Tryz.func17, Tryz.ntmps17
  go_wp2_with fail
  refine HN.out.mono ?_
  rintro e w1 ⟨rfl, v1, u1, h1, hm1⟩
  have H1 := Lib.hid h1
  have HM1 := Lib.hid hm1
  clear h1 hm1 HN
  go_wp2_with fail
  go_loopw [5] (fun kids wr => kids = .slice none 0 0 ∧ wr = w1) (fun _ _ => 0)
  case atStart => exact ⟨rfl, rfl⟩
  case round =>
    obtain ⟨rfl, rfl⟩ := hrel
    go_wp2_with fail
    refine (takes_no ⟨#[125]⟩ (HX.out _ _ _ H1.out) HN3.out (by simp)).mono ?_
    rintro e w2 ⟨rfl, u2, h2, hm2⟩
    have H2 := Lib.hid h2
    have HM2 := Lib.hid hm2
    have d18 := h2.parB.cell 18 (v := .slice none 0 0) (by show some (Par.top _) = _; simp only [Par.past]; rw [HIt.out])
    have HC3 : Hid (∀ z : Int, (w2.alloc (Obj.cells #[Value.int IntKind.i64 z] 3)).cell? ⟨w2.heap.size, 0, none⟩ = some (.int .i64 z)) := fun z => box_cell (heap_alloc_new w2 _)
    clear h2 hm2
    go_wp2_with (first | (refine wpList_appK (y := 0) (g := w2.heap.size) (cap := 1) (by rfl) (.tmp 15) (.tmp 22) (by rfl) (by rfl) (by rfl) (by exact HC3.out 0) ?_; intro v4 w4 hg4; have HG4 := Lib.hid hg4; clear hg4))
    have H4 : Hid (Lx w4 pb base b o cap zs.length g ((k + 1) * 5) (ts.length - (k + 1)) (lc - (k + 1)) ts[k + 1].at_ ts[k + 1].end_ { par.past ts[k] v1 u1 with words := u2 } ([] ++ [⟨#[125]⟩]) (lexB zs ts[k + 1])) := (H2.out.alloc _).mv (Keeps.of_grown HG4.out) (fun i e => by cases e)
    have HM4 : Hid (Mv pb base w w4) := ((HM1.out.trans HM2.out).alloc _).grown HG4.out
    refine (inPolicy_no H4.out HNo.out HN2.out (by simp) (fun s hs => by obtain rfl := List.mem_singleton.1 hs; decide) HLn.out.1 HLn.out.2 rfl).mono ?_
    rintro e w5 ⟨rfl, u5, h5, hm5⟩
    exact ⟨rfl, rfl, _, h5, rfl, rfl, HM4.out.trans hm5⟩
end Go.Proofs.YtmkibolkcjallaaGreatDoor
