import Derived.Test.YtmfkggngjeolcaaGreatDoorPk01
set_option maxHeartbeats 2000000
set_option maxRecDepth 100000
namespace Go.Proofs.YtmfkggngjeolcaaGreatDoor
open Go.RowKit
theorem Own.form {w : World} {base : Nat} {v : Value} {xs : List Nat} (h : Own w base v xs) (hp : 0 < xs.length) : ∃ g cap, v = .slice (some ⟨g, 0, none⟩) xs.length cap ∧ base ≤ g ∧ g < w.heap.size ∧ xs.length ≤ cap ∧ cap ≤ maxLen := by
 rcases h.2 with ⟨rfl, h0⟩ | ⟨g, cap, cur, rfl, hb, hg, hnc, hcm, hcs, ht⟩
 ·omega
 ·exact ⟨g, cap, rfl, hb, (Array.getElem?_eq_some_iff.1 hg).1, hnc, hcm⟩
theorem Own.len {w : World} {base g n cap : Nat} {xs : List Nat} (h : Own w base (.slice (some ⟨g, 0, none⟩) n cap) xs) : n = xs.length := by
 rcases h.2 with ⟨hv, _⟩ | ⟨g', cap', cur, hv, _⟩
 ·cases hv
 ·cases hv
  rfl
theorem Own.cell {w : World} {base g n cap : Nat} {xs : List Nat} (h : Own w base (.slice (some ⟨g, 0, none⟩) n cap) xs) (i : Nat) (hi : i < xs.length) : w.cell? ⟨g, i, none⟩ = some (.int .u8 ((xs.getD i 0 : Nat) : Int)) := by
 have := h.cells (g := g) rfl i _ (bvs_get xs i hi)
 rwa [Addr.add_lit, Nat.zero_add] at this
theorem Own.thawed {w : World} {base g cap n : Nat} {xs : List Nat} (h : Own w base (.slice (some ⟨g, 0, none⟩) n cap) xs) (i : Nat) : w.frozen? ⟨g, i, none⟩ = false := by
 rcases h.2 with ⟨hv, _⟩ | ⟨g', cap', cur, hv, _, hg, _⟩
 ·cases hv
 ·cases hv
  simp [World.frozen?, hg]
theorem Own.set {w : World} {base g n cap : Nat} {xs : List Nat} (h : Own w base (.slice (some ⟨g, 0, none⟩) n cap) xs) (i u : Nat) :
  Own (w.setCell ⟨g, i, none⟩ (.int .u8 ((u : Nat) : Int))) base (.slice (some ⟨g, 0, none⟩) n cap) (xs.set i u) := by
 obtain rfl := h.len;have e : bvs (xs.set i u) = (bvs xs).set i (.int .u8 ((u : Nat) : Int)) := by simp [bvs, List.map_set]
 rcases h.2 with ⟨hv, _⟩ | ⟨g', cap', cur, hv, hb, hg, hnc, hcm, hcs, ht⟩
 ·cases hv
 ·cases hv
  refine ⟨by rw [bvs_length]; omega, .inr ⟨g, cap, cur.setIfInBounds i (.int .u8 ((u : Nat) : Int)), by rw [List.length_set], hb, ?_, by simpa using hnc, hcm, by simpa using hcs, ?_⟩⟩
  ·simp only [World.setCell, Array.getElem?_modify];rw [if_pos trivial, hg];simp
  ·rw [e, ← ht, Array.toList_setIfInBounds, List.length_set, List.take_set]
theorem Own.other {w : World} {base : Nat} {v : Value} {xs : List Nat} (h : Own w base v xs) (b i : Nat) (u : Value) (hb : v.ownBlock ≠ some b) : Own (w.setCell ⟨b, i, none⟩ u) base v xs :=
 h.kept (row := some b) ⟨rfl, rfl, rfl, by simp [World.setCell], fun k _ hk => Below.heap_setCell _ _ _ _ (by simpa using hk)⟩ (.inr hb)
theorem Row.other {w : World} {g : Nat} {L : List Nat} (h : Row w g L) (b i : Nat) (u : Value) (hb : g ≠ b) : Row (w.setCell ⟨b, i, none⟩ u) g L :=
 h.kept (Below.heap_setCell _ _ _ _ hb)
theorem Row.grown {w w' : World} {g : Nat} {L : List Nat} {row : Option Nat} (h : Row w g L) (hg : w.grownBy w' row) (hne : some g ≠ row) : Row w' g L := h.kept (hg.block g h.lt hne)
end Go.Proofs.YtmfkggngjeolcaaGreatDoor
namespace Go.Proofs.YtmfkggngjeolcaaGreatDoor
open Go.RowKit
structure Keeps (S : Nat → Prop) (w w' : World) : Prop where
 os : w'.os = w.os
 tape : w'.tape = w.tape
 output : w'.output = w.output
 size : w.heap.size ≤ w'.heap.size
 block : ∀ k, k < w.heap.size → ¬ S k → w'.heap[k]? = w.heap[k]?
theorem Keeps.refl (S : Nat → Prop) (w : World) : Keeps S w w := ⟨rfl, rfl, rfl, Nat.le_refl _, fun _ _ _ => rfl⟩
theorem Keeps.trans {S S' : Nat → Prop} {a b c : World} (h : Keeps S a b) (k : Keeps S' b c) (hS : ∀ i, i < a.heap.size → S' i → S i) : Keeps S a c :=
 ⟨k.os.trans h.os, k.tape.trans h.tape, k.output.trans h.output, Nat.le_trans h.size k.size, fun i hi hn => (k.block i (Nat.lt_of_lt_of_le hi h.size) (fun hs => hn (hS i hi hs))).trans (h.block i hi hn)⟩
theorem Keeps.mono {S S' : Nat → Prop} {a b : World} (h : Keeps S a b) (hS : ∀ i, i < a.heap.size → S i → S' i) : Keeps S' a b :=
 ⟨h.os, h.tape, h.output, h.size, fun i hi hn => h.block i hi (fun hs => hn (hS i hi hs))⟩
theorem Keeps.of_below {S : Nat → Prop} {w w' : World} (h : Below w.heap.size w w') : Keeps S w w' := ⟨h.os, h.tape, h.output, h.size, fun i hi _ => h.block i hi⟩
theorem Keeps.of_grown {w w' : World} {row : Option Nat} (h : w.grownBy w' row) : Keeps (fun k => row = some k) w w' := ⟨h.os, h.tape, h.output, h.size, fun i hi hn => h.block i hi (fun e => hn e.symm)⟩
theorem Keeps.below {S : Nat → Prop} {B : Nat} {w w' : World} (h : Keeps S w w') (hB : B ≤ w.heap.size) (hS : ∀ i, i < w.heap.size → S i → B ≤ i) : Below B w w' :=
 ⟨h.os, h.tape, h.output, h.size, fun i hi => h.block i (by omega) (fun hs => by have := hS i (by omega) hs; omega)⟩
theorem Keeps.setCell (w : World) (b i : Nat) (v : Value) : Keeps (fun k => k = b) w (w.setCell ⟨b, i, none⟩ v) :=
 ⟨rfl, rfl, rfl, by simp [World.setCell], fun k _ hk => Below.heap_setCell _ _ _ _ hk⟩
theorem Keeps.alloc {S : Nat → Prop} (w : World) (o : Obj) : Keeps S w (w.alloc o) := ⟨rfl, rfl, rfl, by simp, fun k hk _ => Below.heap_alloc w o k hk⟩
theorem Row.keeps {S : Nat → Prop} {w w' : World} {g : Nat} {L : List Nat} (h : Row w g L) (hk : Keeps S w w') (hn : ¬ S g) : Row w' g L := h.kept (hk.block g h.lt hn)
theorem Own.keeps {S : Nat → Prop} {w w' : World} {base : Nat} {v : Value} {xs : List Nat} (h : Own w base v xs) (hk : Keeps S w w') (hn : ∀ k, v.ownBlock = some k → ¬ S k) : Own w' base v xs := by
 refine ⟨h.1, ?_⟩;rcases h.2 with hv | ⟨g, cap, cur, rfl, hb, hgg, rest⟩
 ·exact .inl hv
 ·refine .inr ⟨g, cap, cur, rfl, hb, ?_, rest⟩;rw [hk.block g (Array.getElem?_eq_some_iff.1 hgg).1 (hn g rfl)];exact hgg
theorem Tab.keeps {S : Nat → Prop} {w w' : World} (h : Tab w) (hk : Keeps S w w') (hn : ¬ S 0) : Tab w' := fun i hi => by
 have hc := h i hi;rw [World.cell?_of_block (w := w) (a := ⟨0, i, none⟩) (hk.block 0 (World.block_lt_of_cell? w _ hc) hn)];exact hc
theorem Sl.keeps {S : Nat → Prop} {w w' : World} {v : Value} {zs : List Nat} (h : Sl w v zs) (hk : Keeps S w w') (hn : ∀ k, v.ownBlock = some k → ¬ S k) : Sl w' v zs := by
 obtain ⟨ao, cap, rfl, h1, h2, h3, h4, h5⟩ := h;refine ⟨ao, cap, rfl, h1, h2, h3, h4, fun i hi => ?_⟩;obtain ⟨b, o, e, hc⟩ := h5 i hi;refine ⟨b, o, e, ?_⟩;rw [World.cell?_of_block (w := w) (a := ⟨b, o + i, none⟩) (hk.block b (World.block_lt_of_cell? w _ hc) (hn b (by rw [e]; rfl)))];exact hc

def Wr (w : World) (p : Nat) (v : Value) (zs : List Nat) (why : Int) (base : Nat) : Prop :=
 w.heap[p]? = some (.cells #[v, .int .i64 why] 122 (0, 0)) ∧ Own w base v zs ∧ v.ownBlock ≠ some p ∧ ∀ z ∈ zs, z < 256
theorem Wr.lt {w : World} {p : Nat} {v : Value} {zs : List Nat} {why : Int} {base : Nat} (h : Wr w p v zs why base) : p < w.heap.size := (Array.getElem?_eq_some_iff.1 h.1).1
theorem Wr.cell0 {w : World} {p : Nat} {v : Value} {zs : List Nat} {why : Int} {base : Nat} (h : Wr w p v zs why base) : w.cell? ⟨p, 0, none⟩ = some v := by
 rw [cell_of_row w p 0 _ _ _ h.1]; rfl
theorem Wr.cell1 {w : World} {p : Nat} {v : Value} {zs : List Nat} {why : Int} {base : Nat} (h : Wr w p v zs why base) : w.cell? ⟨p, 1, none⟩ = some (.int .i64 why) := by
 rw [cell_of_row w p 1 _ _ _ h.1]; rfl
theorem Wr.thawed {w : World} {p : Nat} {v : Value} {zs : List Nat} {why : Int} {base : Nat} (h : Wr w p v zs why base) (i : Nat) : w.frozen? ⟨p, i, none⟩ = false := by
 simp [World.frozen?, h.1]
theorem Wr.keeps {S : Nat → Prop} {w w' : World} {p : Nat} {v : Value} {zs : List Nat} {why : Int} {base : Nat} (h : Wr w p v zs why base) (hk : Keeps S w w') (hp : ¬ S p) (hn : ∀ k, v.ownBlock = some k → ¬ S k) : Wr w' p v zs why base :=
 ⟨(hk.block p h.lt hp).trans h.1, h.2.1.keeps hk hn, h.2.2⟩
theorem Wr.refuse {w : World} {p : Nat} {v : Value} {zs : List Nat} {why : Int} {base : Nat} (h : Wr w p v zs why base) (e : Int) : Wr (w.setCell ⟨p, 1, none⟩ (.int .i64 e)) p v zs e base := by
 refine ⟨?_, h.2.1.keeps (Keeps.setCell w p 1 _) (fun k hk e => h.2.2.1 (by rw [hk, e])), h.2.2⟩;simp only [World.setCell, Array.getElem?_modify];rw [if_pos trivial, h.1];simp
theorem Wr.store {w : World} {p : Nat} {v v' : Value} {zs' : List Nat} {why : Int} {base : Nat} (hh : w.heap[p]? = some (.cells #[v, .int .i64 why] 122 (0, 0))) (ho : Own w base v' zs') (hp : v'.ownBlock ≠ some p) (hz : ∀ z ∈ zs', z < 256) : Wr (w.setCell ⟨p, 0, none⟩ v') p v' zs' why base := by
 refine ⟨?_, ho.keeps (Keeps.setCell w p 0 _) (fun k hk e => hp (by rw [hk, e])), hp, hz⟩;simp only [World.setCell, Array.getElem?_modify];rw [if_pos trivial, hh];simp
def At (w : World) (v v' : Value) : Prop := v'.ownBlock = v.ownBlock ∨ ∃ k, v'.ownBlock = some k ∧ w.heap.size ≤ k
def Foot (p : Nat) (v : Value) (k : Nat) : Prop := k = p ∨ v.ownBlock = some k
end Go.Proofs.YtmfkggngjeolcaaGreatDoor
namespace Go.Proofs.YtmfkggngjeolcaaGreatDoor
open Go.RowKit
namespace Pl
def le : Nat → Nat → List Nat
 | 0, _ => []
 | k + 1, n => n % 256 :: le k (n / 256)
theorem le_length (k n : Nat) : (le k n).length = k := by
 induction k generalizing n with
 | zero => rfl
 | succ k ih => simp [le, ih]
theorem le_small (k n : Nat) : ∀ z ∈ le k n, z < 256 := by
 induction k generalizing n with
 | zero => intro z hz; cases hz
 | succ k ih =>
  intro z hz;rcases List.mem_cons.1 hz with rfl | h
  ·omega
  ·exact ih _ z h
def shr : Nat → Nat → Nat
 | 0, n => n
 | k + 1, n => shr k n / 256
theorem le_snoc (k n : Nat) : le (k + 1) n = le k n ++ [shr k n % 256] := by
 induction k generalizing n with
 | zero => rfl
 | succ k ih =>
  have e : ∀ k n, shr k (n / 256) = shr (k + 1) n := by
   intro k n
   induction k with
   | zero => rfl
   | succ k ih2 => show shr k (n / 256) / 256 = _; rw [ih2]; rfl
  rw [show le (k + 1 + 1) n = n % 256 :: le (k + 1) (n / 256) from rfl, ih, e]
  rfl
end Pl
theorem clone_any {v : Value} {p : List Nat} {w : World} (hv : Sl w v p) (hp : p.length ≤ 1099511627776) :
  Calls Tryz.prog 99 #[v] w fun e w' => e = .returned (.slice (some ⟨w.heap.size, 0, none⟩) p.length p.length) ∧ Row w' w.heap.size p ∧ Below w.heap.size w w' := by
 obtain ⟨ao, cap, rfl, h1, h2, h3, h4, h5⟩ := hv;obtain ⟨i, hi, hz0, hz1, hz2⟩ := info_parts info_byte;have H5 : Hid (∀ i, i < p.length → ∃ b o, ao = some ⟨b, o, none⟩ ∧ w.cell? ⟨b, o + i, none⟩ = some (.int .u8 (p.getD i 0 : Nat))) := h5;clear h3 h4 h5;go_enter Tryz.func99, Tryz.ntmps99
 go_wp2_with (at_make; refine wpList_make_full _ rfl _ _ 43 rfl w.heap.size 5 i (.int .u8 0) 1 Tryz.underlying43 hi hz0 hz1 _ _ _ _ p.length rfl rfl (by omega) (by omega) (by rw [hz2]; omega) (by simp only [maxLen]; omega) (Nat.le_refl _) ?_)
 intro w1 hown hgrow;have HR0 : Hid (Row w1 w.heap.size (List.replicate p.length 0)) := row_made hown;have HB1 : Hid (Below w.heap.size w w1) := (Below.refl _ _).grown hgrow (Nat.le_refl _) (by simp);clear hown hgrow;have HSz : Hid ((Tryz.prog.info? 5).map (·.size) = some 1) := by show _ = _; rw [hi, Option.map_some, hz1]
 have HPos : Hid (0 < (bvs p).length → (some ⟨w.heap.size, 0, none⟩ : Option Addr) = some ⟨w.heap.size, 0, none⟩ ∧ ∃ ad, ao = some ad ∧ ∀ j v, (bvs p)[j]? = some v → w1.cell? (ad.add j) = some v) := by
  intro hp0;rw [bvs_length] at hp0;obtain ⟨b, o, e, _⟩ := H5.out 0 hp0;refine ⟨rfl, ⟨b, o, none⟩, e, fun j v hj => ?_⟩;have hjl : j < p.length := by simpa [bvs_length] using (List.getElem?_eq_some_iff.1 hj).1
  obtain ⟨b', o', e', hc⟩ := H5.out j hjl;rw [e] at e'
  cases e'
  rw [bvs_get p j hjl] at hj;rw [Addr.add_lit, HB1.out.cell (p := ⟨b, o + j, none⟩) (World.block_lt_of_cell? w _ hc), hc, hj]
 have HPl : Hid ((bvs p).length = p.length) := bvs_length p;go_wp2_with (refine wpList_copy_splice rfl (.tmp 7) (.tmp 8) 43 43 rfl 5 Tryz.underlying43 HSz.out _ ao _ _ p.length cap rfl rfl w.heap.size 0 (bvs (List.replicate p.length 0)) 5 HR0.out (bvs p) (by rw [HPl.out]; exact (Nat.min_self _).symm) HPos.out (by rw [HPl.out, bvs_length, List.length_replicate]; omega) (bvs_one p) w.heap.size w HB1.out (Nat.le_refl _) ?_)
 intro w2 HG2 hB2;have HR2 : Hid (Row w2 w.heap.size p) := by
  have h := HG2.out;rw [splice_front, Nat.sub_self, List.replicate_zero, List.append_nil] at h;exact h
 have HB2 : Hid (Below w.heap.size w w2) := hB2;clear hB2 HG2 HPos HSz HPl HR0 HB1 H5;go_wp2
 go_ret
 exact ⟨rfl, HR2.out, HB2.out⟩
theorem newWriter_any (w : World) : Calls Tryz.prog 23 #[] w fun e w' => e = .returned (.pointer (some ⟨w.heap.size, 0, none⟩)) ∧ Wr w' w.heap.size (.slice none 0 0) [] 0 w.heap.size ∧ Below w.heap.size w w' := by
 go_enter Tryz.func23, Tryz.ntmps23
 go_wp2
 go_ret
 exact ⟨rfl, ⟨heap_alloc_new w _, own_nil _ _, by simp [Value.ownBlock], by simp⟩, (Below.refl _ _).alloc (Nat.le_refl _) _⟩
theorem len_any {w : World} {p : Nat} {v : Value} {zs : List Nat} {why : Int} {base : Nat} (h : Wr w p v zs why base) :
  Calls Tryz.prog 105 #[.pointer (some ⟨p, 0, none⟩)] w fun e w' => e = .returned (.int .i64 zs.length) ∧ w' = w := by
 have c0 := h.cell0;obtain ⟨ao, cap, rfl, h1, h2, _⟩ := h.2.1.sl h.2.2.2;clear h;go_enter Tryz.func105, Tryz.ntmps105
 go_wp2
 go_ret
 exact ⟨rfl, rfl⟩
theorem all_any {w : World} {p : Nat} {v : Value} {zs : List Nat} {why : Int} {base : Nat} (h : Wr w p v zs why base) (hp : zs.length ≤ 1099511627776) :
  Calls Tryz.prog 58 #[.pointer (some ⟨p, 0, none⟩)] w fun e w' => e = .returned (.slice (some ⟨w.heap.size, 0, none⟩) zs.length zs.length) ∧ Row w' w.heap.size zs ∧ Below w.heap.size w w' := by
 have c0 := h.cell0;have HC : Hid (Calls Tryz.prog 99 #[v] w fun e w' => e = .returned (.slice (some ⟨w.heap.size, 0, none⟩) zs.length zs.length) ∧ Row w' w.heap.size zs ∧ Below w.heap.size w w') := clone_any (h.2.1.sl h.2.2.2) hp;obtain ⟨ao, cap, rfl, h1, h2, _⟩ := h.2.1.sl h.2.2.2;clear h;go_enter Tryz.func58, Tryz.ntmps58
 go_wp2_with fail
 refine HC.out.mono ?_;rintro e w' ⟨rfl, hr, hb⟩;have HR : Hid (Row w' w.heap.size zs ∧ Below w.heap.size w w') := ⟨hr, hb⟩
 clear hr hb;go_wp2
 go_ret
 exact ⟨rfl, HR.out⟩
end Go.Proofs.YtmfkggngjeolcaaGreatDoor
