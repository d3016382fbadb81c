/- node, operator. Own work. -/
import Derived.Test.YtmkibolkcjallaaGreatDoorSyOne
namespace Go.Proofs.YtmkibolkcjallaaGreatDoor
open Go.RowKit Sc
/-- an append of one node as a step of a region that draws -/
theorem step_appendN {w : World} {ops : Array Oper} {o : Oper} {a : Act} {K : Act → World → Prop} {Q : Exit → Act → World → Prop} {E : Prop} (hw : Region.wanted o (yielded ops a.tmps) = true) (s x : Operand)
    (ho : o.op = .call { callee := .builtin .append, args := #[s, x], argTypes := #[26, 26] })
    {base : Nat} {v : Value} {ts : List Nd} (t : Nd) {g cap : Nat} (hs : a.eval s = v) (hown : OwnN w base v ts) (hx : a.eval x = .slice (some ⟨g, 0, none⟩) 1 cap) (hg : NdB w g t) (hb : ts.length ≤ 1048576) (hbase : base ≤ w.heap.size)
    (h : ∀ v' w', OwnN w' base v' (ts ++ [t]) → w.grownBy w' v.ownBlock → (v'.ownBlock = v.ownBlock ∨ v'.ownBlock = some w.heap.size) → K (a.put o.dst v') w') : if Region.wanted o (yielded ops a.tmps) = true then Oper.wp Tryz.prog o a w K Q else E := by
  rw [if_pos hw]
  obtain ⟨v', w', hr, h2, h3, h4⟩ := run_appendN o.type hown hg hb hbase (cap := cap)
  unfold Oper.wp execOp
  simp only [ho, resolve, invoke, builtin, Sem.run_bind, Sem.run_pure, Result.andThen_ok, List.map_toArray, List.map_cons, List.map_nil, hs, hx, hr]
  exact h v' w' h2 h3 h4
theorem Rt.of' {w w' : World} {pb base b o cap g lc : Nat} {zs : List Nat} {ts : List Tok} {k k' : Nat} {par par' : Par} {ws ws' : List ByteArray} (h : Rt w pb base b o cap g lc zs ts k par ws) (hm : Keeps (fun k => k = pb ∨ base ≤ k) w w') (hp : ParB w' pb par') (hs : par'.src = par.src) (hl : k' < ts.length → par'.list = .slice (some ⟨g, k' * 5, none⟩) (ts.length - k') (lc - k')) (hd : k' = ts.length → ∃ a c, par'.list = .slice a 0 c) (ho : OwnS w' base par'.words ws') : Rt w' pb base b o cap g lc zs ts k' par' ws' := by
  have hg : ¬ (g = pb ∨ base ≤ g) := fun e => e.elim h.apart.1 (fun e => by have := h.low; omega)
  have hb : ¬ (b = pb ∨ base ≤ b) := fun e => e.elim h.apart.2 (fun e => by have := h.low; omega)
  exact ⟨hp, hs.trans h.src, h.sl.keeps hm (fun k hk => by cases hk; exact hb), h.tk.keeps hm hg, hl, hd, h.room, h.apart, ho, h.low, Nat.le_trans h.top hm.size, h.cap_⟩
theorem node_put {w W1 w2 : World} {pb base b o cap g lc : Nat} {zs : List Nat} {ts : List Tok} {k : Nat} {par : Par} {ws : List ByteArray} {ns ns' : List Nd} {na va : Option Addr} {nc vc m m' : Nat} (h : Ex w pb base b o cap g lc zs ts k par ws ns) (hn : par.items = .slice na m nc) (hb : Below w.heap.size w W1) (ho : OwnN w2 base (.slice va m' vc) ns') (hp : ParB w2 pb par) (hk : Keeps (fun k => (Value.slice na m nc).ownBlock = some k) W1 w2) (hl : (Value.slice va m' vc).ownBlock = (Value.slice na m nc).ownBlock ∨ ∃ k, (Value.slice va m' vc).ownBlock = some k ∧ W1.heap.size ≤ k) :
    Ex (w2.setCell ⟨pb, 19, none⟩ (.slice va m' vc)) pb base b o cap g lc zs ts k { par with items := .slice va m' vc } ws ns' ∧ Me pb base w par (w2.setCell ⟨pb, 19, none⟩ (.slice va m' vc)) { par with items := .slice va m' vc } := by
  have hb' : Keeps (fun k => par.items.ownBlock = some k) w W1 := Keeps.of_below hb
  rw [← hn] at hk hl
  have hk2 : Keeps (fun k => k = pb ∨ par.items.ownBlock = some k) w (w2.setCell ⟨pb, 19, none⟩ (.slice va m' vc)) := ((hb'.trans hk (fun _ _ e => e)).mono (fun _ _ => .inr)).trans (Keeps.setCell w2 pb 19 _) (fun _ _ e => .inl e)
  have hlo : ∀ i, par.items.ownBlock = some i → base ≤ i ∧ i < w.heap.size := h.nd.lt
  have hk3 : Keeps (fun k => k = pb ∨ base ≤ k) w (w2.setCell ⟨pb, 19, none⟩ (.slice va m' vc)) := hk2.mono (fun i _ e => e.imp id (fun e => (hlo i e).1))
  have hnp : (Value.slice va m' vc).ownBlock ≠ some pb := by
    rcases hl with e | ⟨j, e, hj⟩
    · rw [e]; intro e2; have := hlo _ e2; have := h.rt.low; omega
    · rw [e]; intro e2; cases e2; have := h.rt.parB.lt; have := hb.size; omega
  refine ⟨⟨h.rt.of' hk3 (hp.put rfl) rfl h.rt.list h.rt.done (h.rt.own.keeps hk2 (fun i hi e => ?_)), ?_⟩, hk3, fun i h1 h2 h3 h4 => ⟨hk2.block i h1 (fun e => e.elim h2 h4), h3, ?_⟩, ⟨rfl, rfl, rfl, rfl, rfl, rfl, rfl⟩⟩
  · rcases e with e | e
    · subst e; have := h.rt.own.lt _ hi; have := h.rt.low; omega
    · exact h.ne i hi e
  · exact ho.keeps (Keeps.setCell w2 pb 19 _) (fun i hi e => by subst e; exact hnp hi)
  · show (Value.slice va m' vc).ownBlock ≠ some i
    rcases hl with e | ⟨j, e, hj⟩
    · rw [e]; exact h4
    · rw [e]; intro e2; cases e2; have := hb.size; omega
set_option maxRecDepth 100000 in
set_option maxHeartbeats 4000000 in
theorem node_any {w : World} {pb base b o cap g lc : Nat} {zs : List Nat} {ts : List Tok} {k : Nat} {par : Par} {ws : List ByteArray} {ns : List Nd} (d : Nd) (h : Ex w pb base b o cap g lc zs ts k par ws ns) (hl : ns.length ≤ 1000) :
    Calls Tryz.prog 100 #[.pointer (some ⟨pb, 0, none⟩), .agg #[.int .i64 d.op, .int .u64 d.n, .string d.s, .slice d.ka d.kn d.kc, .int .i64 d.at_]] w fun e w' => e = .returned (.int .i64 (ns.length : Int)) ∧ ∃ nv, Ex w' pb base b o cap g lc zs ts k { par with items := nv } ws (ns ++ [d]) ∧ Me pb base w par w' { par with items := nv } := by
  obtain ⟨na, nc, hnv⟩ := h.nd.form
  have c19 := h.rt.parB.cell 19 (v := par.items) rfl
  have z19 := h.rt.parB.thawed 19
  rw [hnv] at c19
  have HX := Lib.hid h
  have HNv : Hid (par.items = .slice na ns.length nc) := hnv
  clear h hnv
  go_enter Tryz.func100, Tryz.ntmps100
  go_wp2_with fail
  have HBx : Hid (NdB (w.alloc (.cells #[.int .i64 d.op, .int .u64 d.n, .string d.s, .slice d.ka d.kn d.kc, .int .i64 d.at_] 37)) w.heap.size d) := heap_alloc_new w _
  have HM1 : Hid (Me pb base w par (w.alloc (.cells #[.int .i64 d.op, .int .u64 d.n, .string d.s, .slice d.ka d.kn d.kc, .int .i64 d.at_] 37)) par) := (Me.refl _ _ _ _).alloc _
  have HSz : Hid (w.heap.size < (w.alloc (.cells #[.int .i64 d.op, .int .u64 d.n, .string d.s, .slice d.ka d.kn d.kc, .int .i64 d.at_] 37)).heap.size) := show _ < _ by simp
  have HBb : Hid (Below w.heap.size w (w.alloc (.cells #[.int .i64 d.op, .int .u64 d.n, .string d.s, .slice d.ka d.kn d.kc, .int .i64 d.at_] 37))) := (Below.refl _ _).alloc (Nat.le_refl _) _
  generalize w.alloc (.cells #[.int .i64 d.op, .int .u64 d.n, .string d.s, .slice d.ka d.kn d.kc, .int .i64 d.at_] 37) = W1 at HBx HM1 HSz HBb ⊢
  have HO1 : Hid (OwnN W1 base (.slice na ns.length nc) ns) := by
    have := HX.out.nd
    rw [HNv.out] at this
    exact this.below HBb.out
  have HOx : Hid (∀ X, OwnN (W1.alloc X) base (.slice na ns.length nc) ns) := fun X => HO1.out.below ((Below.refl _ _).alloc (Nat.le_refl _) _)
  have HBs : Hid (base ≤ W1.heap.size) := Nat.le_trans HX.out.rt.top (Nat.le_of_lt HSz.out)
  have HP1 : Hid (ParB W1 pb par) := HX.out.rt.parB.keeps (Keeps.of_below (S := fun _ => False) HBb.out) id
  have HLo : Hid (∀ k, (Value.slice na ns.length nc).ownBlock = some k → base ≤ k ∧ k < w.heap.size) := fun k hk => HX.out.nd.lt k (by rw [HNv.out]; exact hk)
  have HPx : Hid (∀ (X : Obj) (v2 : Value) (w2 : World), (W1.alloc X).drew.grownBy w2 (Value.slice na ns.length nc).ownBlock → (v2.ownBlock = (Value.slice na ns.length nc).ownBlock ∨ v2.ownBlock = some (W1.alloc X).drew.heap.size) → ParB w2 pb par ∧ Keeps (fun k => (Value.slice na ns.length nc).ownBlock = some k) W1 w2 ∧ (v2.ownBlock = (Value.slice na ns.length nc).ownBlock ∨ ∃ k, v2.ownBlock = some k ∧ W1.heap.size ≤ k)) := fun X v2 w2 g l => by
    have hka : Keeps (fun k => (Value.slice na ns.length nc).ownBlock = some k) W1 w2 := (Keeps.alloc (S := fun k => (Value.slice na ns.length nc).ownBlock = some k) W1 X).drew.trans (Keeps.of_grown g) (fun _ _ e => e)
    refine ⟨HP1.out.keeps hka (fun e => by have := HLo.out _ e; have := HX.out.rt.low; omega), hka, l.imp id (fun l => ⟨_, l, by simp⟩)⟩
  obtain ⟨g0, g1, g2, g3, g4⟩ := HBx.out.cells
  have hpn := HP1.out.lt
  have hsz := HSz.out
  have c19' := HP1.out.cell 19 (v := par.items) rfl
  rw [HNv.out] at c19'
  clear c19 z19
  go_region_law ((refine step_appendN (v := .slice na ns.length nc) (by kernel_rfl) (.tmp 10) (.tmp 12) (by rfl) d (by rfl) (by exact HOx.out _) (by rfl) (by exact heap_alloc_new W1 _) (by omega) (by simp; exact Nat.le_succ_of_le HBs.out) ?_; intro v2 w2 h2 g2 l2; obtain ⟨va, vc, hv2⟩ := h2.form; subst hv2; have HO2 : Hid (OwnN w2 base _ (ns ++ [d])) := h2; have HY := Lib.hid (HPx.out _ _ w2 g2 l2); have e2 := HY.out.1.cell 19 (v := par.items) rfl; have t2 := HY.out.1.thawed 19; clear h2 g2 l2))
  all_goals
    rw [HNv.out] at e2
    clear g0 g1 g2 g3 g4 c19'
    have hwl : wrap64 ((ns.length + 1 : Nat) - 1 : Int) = (ns.length : Int) := by unfold wrap64; omega
    have hwl2 : IntKind.i64.wrap ((ns.length : Int) + 1 - 1) = (ns.length : Int) := by rw [IntKind.wrap_i64]; omega
    go_wp2_with fail
    go_ret
    have HF := node_put (va := va) (vc := vc) HX.out HNv.out HBb.out HO2.out HY.out.1 HY.out.2.1 HY.out.2.2
    rw [List.length_append, List.length_singleton] at HF
    exact ⟨rfl, _, HF⟩
end Go.Proofs.YtmkibolkcjallaaGreatDoor
