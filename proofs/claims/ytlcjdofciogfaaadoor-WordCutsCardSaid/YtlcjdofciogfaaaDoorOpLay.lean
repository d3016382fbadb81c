/- A step of a script as a value; what laid does. -/
import Derived.Test.YtlcjdofciogfaaaDoorRText
namespace Go.Proofs.YtlcjdofciogfaaaDoor
open Go.RowKit
structure OpV where
  kind : Int
  pos : Int
  n : Nat
  num : Int
  pv : Value
  ps : List Nat
  s : ByteArray
def OpV.vals (o : OpV) : Array Value := #[.int .i64 o.kind, .int .i64 o.pos, .int .u64 (o.n : Int), .int .i64 o.num, o.pv, .string o.s]
/-- its bytes lie in memory; its number is one -/
def OpV.Fit (w : World) (o : OpV) : Prop := Sl w o.pv o.ps ∧ o.n < 18446744073709551616 ∧ o.ps.length ≤ 549755813888 ∧ o.s.size ≤ 549755813888
/-- what a Writer that has refused nothing has behind a step, and its refusal -/
def layF (zs : List Nat) (o : OpV) : List Nat × Int :=
  if o.kind = 1 then (zs ++ Pl.le 1 (o.n % 256), 0)
  else if o.kind = 2 then (zs ++ Pl.le 2 (o.n % 65536), 0)
  else if o.kind = 3 then (zs ++ Pl.le 4 (o.n % 4294967296), 0)
  else if o.kind = 4 then (zs ++ Pl.le 8 o.n, 0)
  else if o.kind = 5 then (zs ++ o.ps, 0)
  else if o.kind = 6 then (if o.s.size ≤ 65535 then (zs ++ (Pl.le 2 o.s.size ++ sb o.s), 0) else (zs, 3))
  else if o.kind = 7 then (if 1 ≤ o.num ∧ o.num ≤ 4096 then (zs ++ List.replicate (gapN zs.length o.num.toNat) 0, 0) else (zs, 1))
  else if o.kind = 8 then (if 0 ≤ o.num ∧ o.num ≤ zs.length then (zs ++ Pl.le 4 (Pl.crc (zs.drop o.num.toNat)), 0) else (zs, 1))
  else (zs, 0)
theorem At.alloc {w : World} {o : Obj} {v v' : Value} (h : At (w.alloc o) v v') : At w v v' := by
  rcases h with h | ⟨k, hk, hle⟩
  · exact .inl h
  · exact .inr ⟨k, hk, by simp at hle; omega⟩
theorem Wr.alloc {w : World} {p : Nat} {v : Value} {zs : List Nat} {why : Int} {base : Nat} (h : Wr w p v zs why base) (o : Obj) : Wr (w.alloc o) p v zs why base :=
  h.keeps (Keeps.alloc (S := fun _ => False) w o) (fun h => h) (fun _ _ h => h)
/-- what laid leaves -/
def LaidPost (w : World) (p base : Nat) (v : Value) (zs : List Nat) (o : OpV) (e : Ending) (w' : World) : Prop :=
  e = .returned (.bool ((layF zs o).2 == 0)) ∧ ∃ v', Wr w' p v' (layF zs o).1 (layF zs o).2 base ∧ Keeps (Foot p v) w w' ∧ At w v v'
/-- the writer's call was carried out, in the world with the step boxed -/
theorem laid_close {w w1 : World} {X : Obj} {p base : Nat} {v : Value} {zs zs' : List Nat} {why : Int} {o : OpV} (hF : layF zs o = (zs', why)) (hx : ∃ v', Wr w1 p v' zs' why base ∧ Keeps (Foot p v) (w.alloc X) w1 ∧ At (w.alloc X) v v') (b : Bool) (hb : b = (why == 0)) : LaidPost w p base v zs o (.returned (.bool b)) w1 := by
  obtain ⟨v', h1, h2, h3⟩ := hx
  unfold LaidPost
  rw [hF, hb]
  exact ⟨rfl, v', h1, (Keeps.alloc (S := Foot p v) w X).trans h2 (fun i _ h => h), h3.alloc⟩
theorem u8_mod (n : Nat) : ((n % 256 : Nat) : Int) = (n : Int) % 256 := by omega
theorem u16_mod (n : Nat) : ((n % 65536 : Nat) : Int) = IntKind.u16.wrap (n : Int) := by rw [show IntKind.u16.wrap (n : Int) = (n : Int) % 65536 from rfl]; omega
theorem u32_mod (n : Nat) : ((n % 4294967296 : Nat) : Int) = IntKind.u32.wrap (n : Int) := by rw [show IntKind.u32.wrap (n : Int) = (n : Int) % 4294967296 from rfl]; omega
theorem wpad_int {w : World} {p base : Nat} {num : Int} {v : Value} {zs : List Nat} (h : Wr w p v zs 0 base) (h1 : 1 ≤ num) (h2 : num ≤ 4096) (hl : zs.length ≤ 549755813888) (hb : base ≤ w.heap.size) :
    Calls Tryd.prog 41 #[.pointer (some ⟨p, 0, none⟩), .int .i64 num] w fun e w' => e = .returned (.tuple #[]) ∧ ∃ v', Wr w' p v' (zs ++ List.replicate (gapN zs.length num.toNat) 0) 0 base ∧ Keeps (Foot p v) w w' ∧ At w v v' := by
  obtain ⟨m, rfl⟩ := Int.eq_ofNat_of_zero_le (show 0 ≤ num by omega)
  exact wpad_any h (by omega) (by omega) hl hb
theorem wseal_int {w : World} {p base : Nat} {num : Int} {v : Value} {zs : List Nat} (ht : Tab w) (h : Wr w p v zs 0 base) (h1 : 0 ≤ num) (h2 : num ≤ (zs.length : Int)) (hl : zs.length ≤ 549755813888) (hb : base ≤ w.heap.size) :
    Calls Tryd.prog 42 #[.pointer (some ⟨p, 0, none⟩), .int .i64 num] w fun e w' => e = .returned (.tuple #[]) ∧ ∃ v', Wr w' p v' (zs ++ Pl.le 4 (Pl.crc (zs.drop num.toNat))) 0 base ∧ Keeps (Foot p v) w w' ∧ At w v v' := by
  obtain ⟨m, rfl⟩ := Int.eq_ofNat_of_zero_le h1
  exact wseal_any ht h (by omega) hl hb
theorem refused_foot {w w' : World} {p base : Nat} {v : Value} {zs : List Nat} {why : Int} (h : Wr w' p v zs why base) (hk : Keeps (fun k => k = p) w w') : ∃ v', Wr w' p v' zs why base ∧ Keeps (Foot p v) w w' ∧ At w v v' :=
  ⟨v, h, hk.mono (fun _ _ e => .inl e), .inl rfl⟩
theorem wpad_bad' {w : World} {p base : Nat} {al : Int} {v : Value} {zs : List Nat} (h : Wr w p v zs 0 base) (ha : al < 1 ∨ 4096 < al) :
    Calls Tryd.prog 41 #[.pointer (some ⟨p, 0, none⟩), .int .i64 al] w fun e w' => e = .returned (.tuple #[]) ∧ ∃ v', Wr w' p v' zs 1 base ∧ Keeps (Foot p v) w w' ∧ At w v v' :=
  (wpad_bad h ha).mono fun _ _ hx => ⟨hx.1, refused_foot hx.2.1 hx.2.2⟩
theorem wseal_bad' {w : World} {p base : Nat} {fr : Int} {v : Value} {zs : List Nat} (h : Wr w p v zs 0 base) (hf : fr < 0 ∨ (zs.length : Int) < fr) :
    Calls Tryd.prog 42 #[.pointer (some ⟨p, 0, none⟩), .int .i64 fr] w fun e w' => e = .returned (.tuple #[]) ∧ ∃ v', Wr w' p v' zs 1 base ∧ Keeps (Foot p v) w w' ∧ At w v v' :=
  (wseal_bad h hf).mono fun _ _ hx => ⟨hx.1, refused_foot hx.2.1 hx.2.2⟩
theorem wtext_long' {w : World} {p base : Nat} {v : Value} {zs : List Nat} {s : ByteArray} (h : Wr w p v zs 0 base) (hs : 65535 < s.size) :
    Calls Tryd.prog 40 #[.pointer (some ⟨p, 0, none⟩), .string s] w fun e w' => e = .returned (.tuple #[]) ∧ ∃ v', Wr w' p v' zs 3 base ∧ Keeps (Foot p v) w w' ∧ At w v v' :=
  (wtext_long h hs).mono fun _ _ hx => ⟨hx.1, refused_foot hx.2.1 hx.2.2⟩
-- GENERATED
set_option maxRecDepth 100000 in
set_option maxHeartbeats 2000000 in
theorem laid_byte {w : World} {p base : Nat} {v : Value} {zs : List Nat} {pos num : Int} {n : Nat} {pv : Value} {ps : List Nat} {s : ByteArray} (h : Wr w p v zs 0 base) (ho : Sl w pv ps ∧ n < 18446744073709551616 ∧ ps.length ≤ 549755813888 ∧ s.size ≤ 549755813888) (hl : zs.length ≤ 549755813888) (hb : base ≤ w.heap.size) (ht : Tab w)  :
    Calls Tryd.prog 16 #[.pointer (some ⟨p, 0, none⟩), .agg #[.int .i64 1, .int .i64 pos, .int .u64 (n : Int), .int .i64 num, pv, .string s]] w (LaidPost w p base v zs ⟨1, pos, n, num, pv, ps, s⟩) := by
  have HW : Hid (Wr (w.alloc (.cells #[.int .i64 1, .int .i64 pos, .int .u64 (n : Int), .int .i64 num, pv, .string s] 36)) p v zs 0 base) := h.alloc _
  have hbx : base ≤ (w.alloc (.cells #[.int .i64 1, .int .i64 pos, .int .u64 (n : Int), .int .i64 num, pv, .string s] 36)).heap.size := by simp; omega
  have htx : Tab (w.alloc (.cells #[.int .i64 1, .int .i64 pos, .int .u64 (n : Int), .int .i64 num, pv, .string s] 36)) := ht.below ((Below.refl _ _).alloc (Nat.le_refl _) _)
  have hsx : Sl (w.alloc (.cells #[.int .i64 1, .int .i64 pos, .int .u64 (n : Int), .int .i64 num, pv, .string s] 36)) pv ps := ho.1.below ((Below.refl _ _).alloc (Nat.le_refl _) _)
  have hn := ho.2.1
  have hps := ho.2.2.1
  have hss := ho.2.2.2
  have _ := hl
  obtain ⟨pa, pc, hpv⟩ : ∃ a c, pv = .slice a ps.length c := by
    obtain ⟨a, c, e, _⟩ := ho.1
    exact ⟨a, c, e⟩
  have HF : Hid (layF zs ⟨1, pos, n, num, pv, ps, s⟩ = (zs ++ Pl.le 1 (n % 256), 0)) := by show _ = _; simp [layF]
  have HC : Hid (Calls Tryd.prog 35 #[.pointer (some ⟨p, 0, none⟩), .int .u8 ((n : Int) % 256)] (w.alloc (.cells #[.int .i64 1, .int .i64 pos, .int .u64 (n : Int), .int .i64 num, pv, .string s] 36)) fun e w' => e = .returned (.tuple #[]) ∧ ∃ v', Wr w' p v' (zs ++ Pl.le 1 (n % 256)) 0 base ∧ Keeps (Foot p v) (w.alloc (.cells #[.int .i64 1, .int .i64 pos, .int .u64 (n : Int), .int .i64 num, pv, .string s] 36)) w' ∧ At (w.alloc (.cells #[.int .i64 1, .int .i64 pos, .int .u64 (n : Int), .int .i64 num, pv, .string s] 36)) v v') := by rw [← u8_mod]; exact put_u8 HW.out (by omega) hl hbx
  subst hpv
  clear h ho ht htx hsx hbx
  go_enter Tryd.func16, Tryd.ntmps16
  go_wp2_with fail
  refine HC.out.mono ?_
  rintro e w1 ⟨rfl, v1, h1, h2, h3⟩
  have HX : Hid (∃ v', Wr w1 p v' (zs ++ Pl.le 1 (n % 256)) 0 base ∧ Keeps (Foot p v) (w.alloc (.cells #[.int .i64 1, .int .i64 pos, .int .u64 (n : Int), .int .i64 num, (.slice pa ps.length pc), .string s] 36)) w1 ∧ At (w.alloc (.cells #[.int .i64 1, .int .i64 pos, .int .u64 (n : Int), .int .i64 num, (.slice pa ps.length pc), .string s] 36)) v v') := ⟨v1, h1, h2, h3⟩
  have HE : Hid (Wr w1 p v1 (zs ++ Pl.le 1 (n % 256)) 0 base) := h1
  clear h1 h2 h3 HC
  go_wp2_with fail
  refine (err_any HE.out).mono ?_
  rintro e w' ⟨rfl, hw⟩
  rw [hw]
  clear hw w'
  go_wp2
  go_ret
  exact laid_close HF.out HX.out _ (by decide)
set_option maxRecDepth 100000 in
set_option maxHeartbeats 2000000 in
theorem laid_half {w : World} {p base : Nat} {v : Value} {zs : List Nat} {pos num : Int} {n : Nat} {pv : Value} {ps : List Nat} {s : ByteArray} (h : Wr w p v zs 0 base) (ho : Sl w pv ps ∧ n < 18446744073709551616 ∧ ps.length ≤ 549755813888 ∧ s.size ≤ 549755813888) (hl : zs.length ≤ 549755813888) (hb : base ≤ w.heap.size) (ht : Tab w)  :
    Calls Tryd.prog 16 #[.pointer (some ⟨p, 0, none⟩), .agg #[.int .i64 2, .int .i64 pos, .int .u64 (n : Int), .int .i64 num, pv, .string s]] w (LaidPost w p base v zs ⟨2, pos, n, num, pv, ps, s⟩) := by
  have HW : Hid (Wr (w.alloc (.cells #[.int .i64 2, .int .i64 pos, .int .u64 (n : Int), .int .i64 num, pv, .string s] 36)) p v zs 0 base) := h.alloc _
  have hbx : base ≤ (w.alloc (.cells #[.int .i64 2, .int .i64 pos, .int .u64 (n : Int), .int .i64 num, pv, .string s] 36)).heap.size := by simp; omega
  have htx : Tab (w.alloc (.cells #[.int .i64 2, .int .i64 pos, .int .u64 (n : Int), .int .i64 num, pv, .string s] 36)) := ht.below ((Below.refl _ _).alloc (Nat.le_refl _) _)
  have hsx : Sl (w.alloc (.cells #[.int .i64 2, .int .i64 pos, .int .u64 (n : Int), .int .i64 num, pv, .string s] 36)) pv ps := ho.1.below ((Below.refl _ _).alloc (Nat.le_refl _) _)
  have hn := ho.2.1
  have hps := ho.2.2.1
  have hss := ho.2.2.2
  have _ := hl
  obtain ⟨pa, pc, hpv⟩ : ∃ a c, pv = .slice a ps.length c := by
    obtain ⟨a, c, e, _⟩ := ho.1
    exact ⟨a, c, e⟩
  have HF : Hid (layF zs ⟨2, pos, n, num, pv, ps, s⟩ = (zs ++ Pl.le 2 (n % 65536), 0)) := by show _ = _; simp [layF]
  have HC : Hid (Calls Tryd.prog 36 #[.pointer (some ⟨p, 0, none⟩), .int .u16 (IntKind.u16.wrap (n : Int))] (w.alloc (.cells #[.int .i64 2, .int .i64 pos, .int .u64 (n : Int), .int .i64 num, pv, .string s] 36)) fun e w' => e = .returned (.tuple #[]) ∧ ∃ v', Wr w' p v' (zs ++ Pl.le 2 (n % 65536)) 0 base ∧ Keeps (Foot p v) (w.alloc (.cells #[.int .i64 2, .int .i64 pos, .int .u64 (n : Int), .int .i64 num, pv, .string s] 36)) w' ∧ At (w.alloc (.cells #[.int .i64 2, .int .i64 pos, .int .u64 (n : Int), .int .i64 num, pv, .string s] 36)) v v') := by rw [← u16_mod]; exact put_u16 HW.out (by omega) hl hbx
  subst hpv
  clear h ho ht htx hsx hbx
  go_enter Tryd.func16, Tryd.ntmps16
  go_wp2_with fail
  refine HC.out.mono ?_
  rintro e w1 ⟨rfl, v1, h1, h2, h3⟩
  have HX : Hid (∃ v', Wr w1 p v' (zs ++ Pl.le 2 (n % 65536)) 0 base ∧ Keeps (Foot p v) (w.alloc (.cells #[.int .i64 2, .int .i64 pos, .int .u64 (n : Int), .int .i64 num, (.slice pa ps.length pc), .string s] 36)) w1 ∧ At (w.alloc (.cells #[.int .i64 2, .int .i64 pos, .int .u64 (n : Int), .int .i64 num, (.slice pa ps.length pc), .string s] 36)) v v') := ⟨v1, h1, h2, h3⟩
  have HE : Hid (Wr w1 p v1 (zs ++ Pl.le 2 (n % 65536)) 0 base) := h1
  clear h1 h2 h3 HC
  go_wp2_with fail
  refine (err_any HE.out).mono ?_
  rintro e w' ⟨rfl, hw⟩
  rw [hw]
  clear hw w'
  go_wp2
  go_ret
  exact laid_close HF.out HX.out _ (by decide)
set_option maxRecDepth 100000 in
set_option maxHeartbeats 2000000 in
theorem laid_word {w : World} {p base : Nat} {v : Value} {zs : List Nat} {pos num : Int} {n : Nat} {pv : Value} {ps : List Nat} {s : ByteArray} (h : Wr w p v zs 0 base) (ho : Sl w pv ps ∧ n < 18446744073709551616 ∧ ps.length ≤ 549755813888 ∧ s.size ≤ 549755813888) (hl : zs.length ≤ 549755813888) (hb : base ≤ w.heap.size) (ht : Tab w)  :
    Calls Tryd.prog 16 #[.pointer (some ⟨p, 0, none⟩), .agg #[.int .i64 3, .int .i64 pos, .int .u64 (n : Int), .int .i64 num, pv, .string s]] w (LaidPost w p base v zs ⟨3, pos, n, num, pv, ps, s⟩) := by
  have HW : Hid (Wr (w.alloc (.cells #[.int .i64 3, .int .i64 pos, .int .u64 (n : Int), .int .i64 num, pv, .string s] 36)) p v zs 0 base) := h.alloc _
  have hbx : base ≤ (w.alloc (.cells #[.int .i64 3, .int .i64 pos, .int .u64 (n : Int), .int .i64 num, pv, .string s] 36)).heap.size := by simp; omega
  have htx : Tab (w.alloc (.cells #[.int .i64 3, .int .i64 pos, .int .u64 (n : Int), .int .i64 num, pv, .string s] 36)) := ht.below ((Below.refl _ _).alloc (Nat.le_refl _) _)
  have hsx : Sl (w.alloc (.cells #[.int .i64 3, .int .i64 pos, .int .u64 (n : Int), .int .i64 num, pv, .string s] 36)) pv ps := ho.1.below ((Below.refl _ _).alloc (Nat.le_refl _) _)
  have hn := ho.2.1
  have hps := ho.2.2.1
  have hss := ho.2.2.2
  have _ := hl
  obtain ⟨pa, pc, hpv⟩ : ∃ a c, pv = .slice a ps.length c := by
    obtain ⟨a, c, e, _⟩ := ho.1
    exact ⟨a, c, e⟩
  have HF : Hid (layF zs ⟨3, pos, n, num, pv, ps, s⟩ = (zs ++ Pl.le 4 (n % 4294967296), 0)) := by show _ = _; simp [layF]
  have HC : Hid (Calls Tryd.prog 37 #[.pointer (some ⟨p, 0, none⟩), .int .u32 (IntKind.u32.wrap (n : Int))] (w.alloc (.cells #[.int .i64 3, .int .i64 pos, .int .u64 (n : Int), .int .i64 num, pv, .string s] 36)) fun e w' => e = .returned (.tuple #[]) ∧ ∃ v', Wr w' p v' (zs ++ Pl.le 4 (n % 4294967296)) 0 base ∧ Keeps (Foot p v) (w.alloc (.cells #[.int .i64 3, .int .i64 pos, .int .u64 (n : Int), .int .i64 num, pv, .string s] 36)) w' ∧ At (w.alloc (.cells #[.int .i64 3, .int .i64 pos, .int .u64 (n : Int), .int .i64 num, pv, .string s] 36)) v v') := by rw [← u32_mod]; exact put_u32 HW.out (by omega) hl hbx
  subst hpv
  clear h ho ht htx hsx hbx
  go_enter Tryd.func16, Tryd.ntmps16
  go_wp2_with fail
  refine HC.out.mono ?_
  rintro e w1 ⟨rfl, v1, h1, h2, h3⟩
  have HX : Hid (∃ v', Wr w1 p v' (zs ++ Pl.le 4 (n % 4294967296)) 0 base ∧ Keeps (Foot p v) (w.alloc (.cells #[.int .i64 3, .int .i64 pos, .int .u64 (n : Int), .int .i64 num, (.slice pa ps.length pc), .string s] 36)) w1 ∧ At (w.alloc (.cells #[.int .i64 3, .int .i64 pos, .int .u64 (n : Int), .int .i64 num, (.slice pa ps.length pc), .string s] 36)) v v') := ⟨v1, h1, h2, h3⟩
  have HE : Hid (Wr w1 p v1 (zs ++ Pl.le 4 (n % 4294967296)) 0 base) := h1
  clear h1 h2 h3 HC
  go_wp2_with fail
  refine (err_any HE.out).mono ?_
  rintro e w' ⟨rfl, hw⟩
  rw [hw]
  clear hw w'
  go_wp2
  go_ret
  exact laid_close HF.out HX.out _ (by decide)
set_option maxRecDepth 100000 in
set_option maxHeartbeats 2000000 in
theorem laid_long {w : World} {p base : Nat} {v : Value} {zs : List Nat} {pos num : Int} {n : Nat} {pv : Value} {ps : List Nat} {s : ByteArray} (h : Wr w p v zs 0 base) (ho : Sl w pv ps ∧ n < 18446744073709551616 ∧ ps.length ≤ 549755813888 ∧ s.size ≤ 549755813888) (hl : zs.length ≤ 549755813888) (hb : base ≤ w.heap.size) (ht : Tab w)  :
    Calls Tryd.prog 16 #[.pointer (some ⟨p, 0, none⟩), .agg #[.int .i64 4, .int .i64 pos, .int .u64 (n : Int), .int .i64 num, pv, .string s]] w (LaidPost w p base v zs ⟨4, pos, n, num, pv, ps, s⟩) := by
  have HW : Hid (Wr (w.alloc (.cells #[.int .i64 4, .int .i64 pos, .int .u64 (n : Int), .int .i64 num, pv, .string s] 36)) p v zs 0 base) := h.alloc _
  have hbx : base ≤ (w.alloc (.cells #[.int .i64 4, .int .i64 pos, .int .u64 (n : Int), .int .i64 num, pv, .string s] 36)).heap.size := by simp; omega
  have htx : Tab (w.alloc (.cells #[.int .i64 4, .int .i64 pos, .int .u64 (n : Int), .int .i64 num, pv, .string s] 36)) := ht.below ((Below.refl _ _).alloc (Nat.le_refl _) _)
  have hsx : Sl (w.alloc (.cells #[.int .i64 4, .int .i64 pos, .int .u64 (n : Int), .int .i64 num, pv, .string s] 36)) pv ps := ho.1.below ((Below.refl _ _).alloc (Nat.le_refl _) _)
  have hn := ho.2.1
  have hps := ho.2.2.1
  have hss := ho.2.2.2
  have _ := hl
  obtain ⟨pa, pc, hpv⟩ : ∃ a c, pv = .slice a ps.length c := by
    obtain ⟨a, c, e, _⟩ := ho.1
    exact ⟨a, c, e⟩
  have HF : Hid (layF zs ⟨4, pos, n, num, pv, ps, s⟩ = (zs ++ Pl.le 8 n, 0)) := by show _ = _; simp [layF]
  have HC : Hid (Calls Tryd.prog 38 #[.pointer (some ⟨p, 0, none⟩), .int .u64 (n : Int)] (w.alloc (.cells #[.int .i64 4, .int .i64 pos, .int .u64 (n : Int), .int .i64 num, pv, .string s] 36)) fun e w' => e = .returned (.tuple #[]) ∧ ∃ v', Wr w' p v' (zs ++ Pl.le 8 n) 0 base ∧ Keeps (Foot p v) (w.alloc (.cells #[.int .i64 4, .int .i64 pos, .int .u64 (n : Int), .int .i64 num, pv, .string s] 36)) w' ∧ At (w.alloc (.cells #[.int .i64 4, .int .i64 pos, .int .u64 (n : Int), .int .i64 num, pv, .string s] 36)) v v') := put_u64 HW.out (by omega) hl hbx
  subst hpv
  clear h ho ht htx hsx hbx
  go_enter Tryd.func16, Tryd.ntmps16
  go_wp2_with fail
  refine HC.out.mono ?_
  rintro e w1 ⟨rfl, v1, h1, h2, h3⟩
  have HX : Hid (∃ v', Wr w1 p v' (zs ++ Pl.le 8 n) 0 base ∧ Keeps (Foot p v) (w.alloc (.cells #[.int .i64 4, .int .i64 pos, .int .u64 (n : Int), .int .i64 num, (.slice pa ps.length pc), .string s] 36)) w1 ∧ At (w.alloc (.cells #[.int .i64 4, .int .i64 pos, .int .u64 (n : Int), .int .i64 num, (.slice pa ps.length pc), .string s] 36)) v v') := ⟨v1, h1, h2, h3⟩
  have HE : Hid (Wr w1 p v1 (zs ++ Pl.le 8 n) 0 base) := h1
  clear h1 h2 h3 HC
  go_wp2_with fail
  refine (err_any HE.out).mono ?_
  rintro e w' ⟨rfl, hw⟩
  rw [hw]
  clear hw w'
  go_wp2
  go_ret
  exact laid_close HF.out HX.out _ (by decide)
set_option maxRecDepth 100000 in
set_option maxHeartbeats 2000000 in
theorem laid_bytes {w : World} {p base : Nat} {v : Value} {zs : List Nat} {pos num : Int} {n : Nat} {pv : Value} {ps : List Nat} {s : ByteArray} (h : Wr w p v zs 0 base) (ho : Sl w pv ps ∧ n < 18446744073709551616 ∧ ps.length ≤ 549755813888 ∧ s.size ≤ 549755813888) (hl : zs.length ≤ 549755813888) (hb : base ≤ w.heap.size) (ht : Tab w)  :
    Calls Tryd.prog 16 #[.pointer (some ⟨p, 0, none⟩), .agg #[.int .i64 5, .int .i64 pos, .int .u64 (n : Int), .int .i64 num, pv, .string s]] w (LaidPost w p base v zs ⟨5, pos, n, num, pv, ps, s⟩) := by
  have HW : Hid (Wr (w.alloc (.cells #[.int .i64 5, .int .i64 pos, .int .u64 (n : Int), .int .i64 num, pv, .string s] 36)) p v zs 0 base) := h.alloc _
  have hbx : base ≤ (w.alloc (.cells #[.int .i64 5, .int .i64 pos, .int .u64 (n : Int), .int .i64 num, pv, .string s] 36)).heap.size := by simp; omega
  have htx : Tab (w.alloc (.cells #[.int .i64 5, .int .i64 pos, .int .u64 (n : Int), .int .i64 num, pv, .string s] 36)) := ht.below ((Below.refl _ _).alloc (Nat.le_refl _) _)
  have hsx : Sl (w.alloc (.cells #[.int .i64 5, .int .i64 pos, .int .u64 (n : Int), .int .i64 num, pv, .string s] 36)) pv ps := ho.1.below ((Below.refl _ _).alloc (Nat.le_refl _) _)
  have hn := ho.2.1
  have hps := ho.2.2.1
  have hss := ho.2.2.2
  have _ := hl
  obtain ⟨pa, pc, hpv⟩ : ∃ a c, pv = .slice a ps.length c := by
    obtain ⟨a, c, e, _⟩ := ho.1
    exact ⟨a, c, e⟩
  have HF : Hid (layF zs ⟨5, pos, n, num, pv, ps, s⟩ = (zs ++ ps, 0)) := by show _ = _; simp [layF]
  have HC : Hid (Calls Tryd.prog 39 #[.pointer (some ⟨p, 0, none⟩), pv] (w.alloc (.cells #[.int .i64 5, .int .i64 pos, .int .u64 (n : Int), .int .i64 num, pv, .string s] 36)) fun e w' => e = .returned (.tuple #[]) ∧ ∃ v', Wr w' p v' (zs ++ ps) 0 base ∧ Keeps (Foot p v) (w.alloc (.cells #[.int .i64 5, .int .i64 pos, .int .u64 (n : Int), .int .i64 num, pv, .string s] 36)) w' ∧ At (w.alloc (.cells #[.int .i64 5, .int .i64 pos, .int .u64 (n : Int), .int .i64 num, pv, .string s] 36)) v v') := wbytes_any HW.out hsx hl hps hbx
  subst hpv
  clear h ho ht htx hsx hbx
  go_enter Tryd.func16, Tryd.ntmps16
  go_wp2_with fail
  refine HC.out.mono ?_
  rintro e w1 ⟨rfl, v1, h1, h2, h3⟩
  have HX : Hid (∃ v', Wr w1 p v' (zs ++ ps) 0 base ∧ Keeps (Foot p v) (w.alloc (.cells #[.int .i64 5, .int .i64 pos, .int .u64 (n : Int), .int .i64 num, (.slice pa ps.length pc), .string s] 36)) w1 ∧ At (w.alloc (.cells #[.int .i64 5, .int .i64 pos, .int .u64 (n : Int), .int .i64 num, (.slice pa ps.length pc), .string s] 36)) v v') := ⟨v1, h1, h2, h3⟩
  have HE : Hid (Wr w1 p v1 (zs ++ ps) 0 base) := h1
  clear h1 h2 h3 HC
  go_wp2_with fail
  refine (err_any HE.out).mono ?_
  rintro e w' ⟨rfl, hw⟩
  rw [hw]
  clear hw w'
  go_wp2
  go_ret
  exact laid_close HF.out HX.out _ (by decide)
set_option maxRecDepth 100000 in
set_option maxHeartbeats 2000000 in
theorem laid_text {w : World} {p base : Nat} {v : Value} {zs : List Nat} {pos num : Int} {n : Nat} {pv : Value} {ps : List Nat} {s : ByteArray} (h : Wr w p v zs 0 base) (ho : Sl w pv ps ∧ n < 18446744073709551616 ∧ ps.length ≤ 549755813888 ∧ s.size ≤ 549755813888) (hl : zs.length ≤ 549755813888) (hb : base ≤ w.heap.size) (ht : Tab w) (hs : s.size ≤ 65535) :
    Calls Tryd.prog 16 #[.pointer (some ⟨p, 0, none⟩), .agg #[.int .i64 6, .int .i64 pos, .int .u64 (n : Int), .int .i64 num, pv, .string s]] w (LaidPost w p base v zs ⟨6, pos, n, num, pv, ps, s⟩) := by
  have HW : Hid (Wr (w.alloc (.cells #[.int .i64 6, .int .i64 pos, .int .u64 (n : Int), .int .i64 num, pv, .string s] 36)) p v zs 0 base) := h.alloc _
  have hbx : base ≤ (w.alloc (.cells #[.int .i64 6, .int .i64 pos, .int .u64 (n : Int), .int .i64 num, pv, .string s] 36)).heap.size := by simp; omega
  have htx : Tab (w.alloc (.cells #[.int .i64 6, .int .i64 pos, .int .u64 (n : Int), .int .i64 num, pv, .string s] 36)) := ht.below ((Below.refl _ _).alloc (Nat.le_refl _) _)
  have hsx : Sl (w.alloc (.cells #[.int .i64 6, .int .i64 pos, .int .u64 (n : Int), .int .i64 num, pv, .string s] 36)) pv ps := ho.1.below ((Below.refl _ _).alloc (Nat.le_refl _) _)
  have hn := ho.2.1
  have hps := ho.2.2.1
  have hss := ho.2.2.2
  have _ := hl
  obtain ⟨pa, pc, hpv⟩ : ∃ a c, pv = .slice a ps.length c := by
    obtain ⟨a, c, e, _⟩ := ho.1
    exact ⟨a, c, e⟩
  have HF : Hid (layF zs ⟨6, pos, n, num, pv, ps, s⟩ = (zs ++ (Pl.le 2 s.size ++ sb s), 0)) := by show _ = _; simp [layF, hs]
  have HC : Hid (Calls Tryd.prog 40 #[.pointer (some ⟨p, 0, none⟩), .string s] (w.alloc (.cells #[.int .i64 6, .int .i64 pos, .int .u64 (n : Int), .int .i64 num, pv, .string s] 36)) fun e w' => e = .returned (.tuple #[]) ∧ ∃ v', Wr w' p v' (zs ++ (Pl.le 2 s.size ++ sb s)) 0 base ∧ Keeps (Foot p v) (w.alloc (.cells #[.int .i64 6, .int .i64 pos, .int .u64 (n : Int), .int .i64 num, pv, .string s] 36)) w' ∧ At (w.alloc (.cells #[.int .i64 6, .int .i64 pos, .int .u64 (n : Int), .int .i64 num, pv, .string s] 36)) v v') := wtext_any HW.out hs hl hbx
  subst hpv
  clear h ho ht htx hsx hbx
  go_enter Tryd.func16, Tryd.ntmps16
  go_wp2_with fail
  refine HC.out.mono ?_
  rintro e w1 ⟨rfl, v1, h1, h2, h3⟩
  have HX : Hid (∃ v', Wr w1 p v' (zs ++ (Pl.le 2 s.size ++ sb s)) 0 base ∧ Keeps (Foot p v) (w.alloc (.cells #[.int .i64 6, .int .i64 pos, .int .u64 (n : Int), .int .i64 num, (.slice pa ps.length pc), .string s] 36)) w1 ∧ At (w.alloc (.cells #[.int .i64 6, .int .i64 pos, .int .u64 (n : Int), .int .i64 num, (.slice pa ps.length pc), .string s] 36)) v v') := ⟨v1, h1, h2, h3⟩
  have HE : Hid (Wr w1 p v1 (zs ++ (Pl.le 2 s.size ++ sb s)) 0 base) := h1
  clear h1 h2 h3 HC
  go_wp2_with fail
  refine (err_any HE.out).mono ?_
  rintro e w' ⟨rfl, hw⟩
  rw [hw]
  clear hw w'
  go_wp2
  go_ret
  exact laid_close HF.out HX.out _ (by decide)
set_option maxRecDepth 100000 in
set_option maxHeartbeats 2000000 in
theorem laid_textlong {w : World} {p base : Nat} {v : Value} {zs : List Nat} {pos num : Int} {n : Nat} {pv : Value} {ps : List Nat} {s : ByteArray} (h : Wr w p v zs 0 base) (ho : Sl w pv ps ∧ n < 18446744073709551616 ∧ ps.length ≤ 549755813888 ∧ s.size ≤ 549755813888) (hl : zs.length ≤ 549755813888) (hb : base ≤ w.heap.size) (ht : Tab w) (hs : 65535 < s.size) :
    Calls Tryd.prog 16 #[.pointer (some ⟨p, 0, none⟩), .agg #[.int .i64 6, .int .i64 pos, .int .u64 (n : Int), .int .i64 num, pv, .string s]] w (LaidPost w p base v zs ⟨6, pos, n, num, pv, ps, s⟩) := by
  have HW : Hid (Wr (w.alloc (.cells #[.int .i64 6, .int .i64 pos, .int .u64 (n : Int), .int .i64 num, pv, .string s] 36)) p v zs 0 base) := h.alloc _
  have hbx : base ≤ (w.alloc (.cells #[.int .i64 6, .int .i64 pos, .int .u64 (n : Int), .int .i64 num, pv, .string s] 36)).heap.size := by simp; omega
  have htx : Tab (w.alloc (.cells #[.int .i64 6, .int .i64 pos, .int .u64 (n : Int), .int .i64 num, pv, .string s] 36)) := ht.below ((Below.refl _ _).alloc (Nat.le_refl _) _)
  have hsx : Sl (w.alloc (.cells #[.int .i64 6, .int .i64 pos, .int .u64 (n : Int), .int .i64 num, pv, .string s] 36)) pv ps := ho.1.below ((Below.refl _ _).alloc (Nat.le_refl _) _)
  have hn := ho.2.1
  have hps := ho.2.2.1
  have hss := ho.2.2.2
  have _ := hl
  obtain ⟨pa, pc, hpv⟩ : ∃ a c, pv = .slice a ps.length c := by
    obtain ⟨a, c, e, _⟩ := ho.1
    exact ⟨a, c, e⟩
  have HF : Hid (layF zs ⟨6, pos, n, num, pv, ps, s⟩ = (zs, 3)) := by show _ = _; simp [layF, Nat.not_le.2 hs]
  have HC : Hid (Calls Tryd.prog 40 #[.pointer (some ⟨p, 0, none⟩), .string s] (w.alloc (.cells #[.int .i64 6, .int .i64 pos, .int .u64 (n : Int), .int .i64 num, pv, .string s] 36)) fun e w' => e = .returned (.tuple #[]) ∧ ∃ v', Wr w' p v' (zs) 3 base ∧ Keeps (Foot p v) (w.alloc (.cells #[.int .i64 6, .int .i64 pos, .int .u64 (n : Int), .int .i64 num, pv, .string s] 36)) w' ∧ At (w.alloc (.cells #[.int .i64 6, .int .i64 pos, .int .u64 (n : Int), .int .i64 num, pv, .string s] 36)) v v') := wtext_long' HW.out hs
  subst hpv
  clear h ho ht htx hsx hbx
  go_enter Tryd.func16, Tryd.ntmps16
  go_wp2_with fail
  refine HC.out.mono ?_
  rintro e w1 ⟨rfl, v1, h1, h2, h3⟩
  have HX : Hid (∃ v', Wr w1 p v' (zs) 3 base ∧ Keeps (Foot p v) (w.alloc (.cells #[.int .i64 6, .int .i64 pos, .int .u64 (n : Int), .int .i64 num, (.slice pa ps.length pc), .string s] 36)) w1 ∧ At (w.alloc (.cells #[.int .i64 6, .int .i64 pos, .int .u64 (n : Int), .int .i64 num, (.slice pa ps.length pc), .string s] 36)) v v') := ⟨v1, h1, h2, h3⟩
  have HE : Hid (Wr w1 p v1 (zs) 3 base) := h1
  clear h1 h2 h3 HC
  go_wp2_with fail
  refine (err_any HE.out).mono ?_
  rintro e w' ⟨rfl, hw⟩
  rw [hw]
  clear hw w'
  go_wp2
  go_ret
  exact laid_close HF.out HX.out _ (by decide)
set_option maxRecDepth 100000 in
set_option maxHeartbeats 2000000 in
theorem laid_pad {w : World} {p base : Nat} {v : Value} {zs : List Nat} {pos num : Int} {n : Nat} {pv : Value} {ps : List Nat} {s : ByteArray} (h : Wr w p v zs 0 base) (ho : Sl w pv ps ∧ n < 18446744073709551616 ∧ ps.length ≤ 549755813888 ∧ s.size ≤ 549755813888) (hl : zs.length ≤ 549755813888) (hb : base ≤ w.heap.size) (ht : Tab w) (h1 : 1 ≤ num) (h2 : num ≤ 4096) :
    Calls Tryd.prog 16 #[.pointer (some ⟨p, 0, none⟩), .agg #[.int .i64 7, .int .i64 pos, .int .u64 (n : Int), .int .i64 num, pv, .string s]] w (LaidPost w p base v zs ⟨7, pos, n, num, pv, ps, s⟩) := by
  have HW : Hid (Wr (w.alloc (.cells #[.int .i64 7, .int .i64 pos, .int .u64 (n : Int), .int .i64 num, pv, .string s] 36)) p v zs 0 base) := h.alloc _
  have hbx : base ≤ (w.alloc (.cells #[.int .i64 7, .int .i64 pos, .int .u64 (n : Int), .int .i64 num, pv, .string s] 36)).heap.size := by simp; omega
  have htx : Tab (w.alloc (.cells #[.int .i64 7, .int .i64 pos, .int .u64 (n : Int), .int .i64 num, pv, .string s] 36)) := ht.below ((Below.refl _ _).alloc (Nat.le_refl _) _)
  have hsx : Sl (w.alloc (.cells #[.int .i64 7, .int .i64 pos, .int .u64 (n : Int), .int .i64 num, pv, .string s] 36)) pv ps := ho.1.below ((Below.refl _ _).alloc (Nat.le_refl _) _)
  have hn := ho.2.1
  have hps := ho.2.2.1
  have hss := ho.2.2.2
  have _ := hl
  obtain ⟨pa, pc, hpv⟩ : ∃ a c, pv = .slice a ps.length c := by
    obtain ⟨a, c, e, _⟩ := ho.1
    exact ⟨a, c, e⟩
  have HF : Hid (layF zs ⟨7, pos, n, num, pv, ps, s⟩ = (zs ++ List.replicate (gapN zs.length num.toNat) 0, 0)) := by show _ = _; simp [layF, h1, h2]
  have HC : Hid (Calls Tryd.prog 41 #[.pointer (some ⟨p, 0, none⟩), .int .i64 num] (w.alloc (.cells #[.int .i64 7, .int .i64 pos, .int .u64 (n : Int), .int .i64 num, pv, .string s] 36)) fun e w' => e = .returned (.tuple #[]) ∧ ∃ v', Wr w' p v' (zs ++ List.replicate (gapN zs.length num.toNat) 0) 0 base ∧ Keeps (Foot p v) (w.alloc (.cells #[.int .i64 7, .int .i64 pos, .int .u64 (n : Int), .int .i64 num, pv, .string s] 36)) w' ∧ At (w.alloc (.cells #[.int .i64 7, .int .i64 pos, .int .u64 (n : Int), .int .i64 num, pv, .string s] 36)) v v') := wpad_int HW.out h1 h2 hl hbx
  subst hpv
  clear h ho ht htx hsx hbx
  go_enter Tryd.func16, Tryd.ntmps16
  go_wp2_with fail
  refine HC.out.mono ?_
  rintro e w1 ⟨rfl, v1, h1, h2, h3⟩
  have HX : Hid (∃ v', Wr w1 p v' (zs ++ List.replicate (gapN zs.length num.toNat) 0) 0 base ∧ Keeps (Foot p v) (w.alloc (.cells #[.int .i64 7, .int .i64 pos, .int .u64 (n : Int), .int .i64 num, (.slice pa ps.length pc), .string s] 36)) w1 ∧ At (w.alloc (.cells #[.int .i64 7, .int .i64 pos, .int .u64 (n : Int), .int .i64 num, (.slice pa ps.length pc), .string s] 36)) v v') := ⟨v1, h1, h2, h3⟩
  have HE : Hid (Wr w1 p v1 (zs ++ List.replicate (gapN zs.length num.toNat) 0) 0 base) := h1
  clear h1 h2 h3 HC
  go_wp2_with fail
  refine (err_any HE.out).mono ?_
  rintro e w' ⟨rfl, hw⟩
  rw [hw]
  clear hw w'
  go_wp2
  go_ret
  exact laid_close HF.out HX.out _ (by decide)
set_option maxRecDepth 100000 in
set_option maxHeartbeats 2000000 in
theorem laid_padbad {w : World} {p base : Nat} {v : Value} {zs : List Nat} {pos num : Int} {n : Nat} {pv : Value} {ps : List Nat} {s : ByteArray} (h : Wr w p v zs 0 base) (ho : Sl w pv ps ∧ n < 18446744073709551616 ∧ ps.length ≤ 549755813888 ∧ s.size ≤ 549755813888) (hl : zs.length ≤ 549755813888) (hb : base ≤ w.heap.size) (ht : Tab w) (h1 : num < 1 ∨ 4096 < num) :
    Calls Tryd.prog 16 #[.pointer (some ⟨p, 0, none⟩), .agg #[.int .i64 7, .int .i64 pos, .int .u64 (n : Int), .int .i64 num, pv, .string s]] w (LaidPost w p base v zs ⟨7, pos, n, num, pv, ps, s⟩) := by
  have HW : Hid (Wr (w.alloc (.cells #[.int .i64 7, .int .i64 pos, .int .u64 (n : Int), .int .i64 num, pv, .string s] 36)) p v zs 0 base) := h.alloc _
  have hbx : base ≤ (w.alloc (.cells #[.int .i64 7, .int .i64 pos, .int .u64 (n : Int), .int .i64 num, pv, .string s] 36)).heap.size := by simp; omega
  have htx : Tab (w.alloc (.cells #[.int .i64 7, .int .i64 pos, .int .u64 (n : Int), .int .i64 num, pv, .string s] 36)) := ht.below ((Below.refl _ _).alloc (Nat.le_refl _) _)
  have hsx : Sl (w.alloc (.cells #[.int .i64 7, .int .i64 pos, .int .u64 (n : Int), .int .i64 num, pv, .string s] 36)) pv ps := ho.1.below ((Below.refl _ _).alloc (Nat.le_refl _) _)
  have hn := ho.2.1
  have hps := ho.2.2.1
  have hss := ho.2.2.2
  have _ := hl
  obtain ⟨pa, pc, hpv⟩ : ∃ a c, pv = .slice a ps.length c := by
    obtain ⟨a, c, e, _⟩ := ho.1
    exact ⟨a, c, e⟩
  have HF : Hid (layF zs ⟨7, pos, n, num, pv, ps, s⟩ = (zs, 1)) := by show _ = _; simp [layF]; omega
  have HC : Hid (Calls Tryd.prog 41 #[.pointer (some ⟨p, 0, none⟩), .int .i64 num] (w.alloc (.cells #[.int .i64 7, .int .i64 pos, .int .u64 (n : Int), .int .i64 num, pv, .string s] 36)) fun e w' => e = .returned (.tuple #[]) ∧ ∃ v', Wr w' p v' (zs) 1 base ∧ Keeps (Foot p v) (w.alloc (.cells #[.int .i64 7, .int .i64 pos, .int .u64 (n : Int), .int .i64 num, pv, .string s] 36)) w' ∧ At (w.alloc (.cells #[.int .i64 7, .int .i64 pos, .int .u64 (n : Int), .int .i64 num, pv, .string s] 36)) v v') := wpad_bad' HW.out h1
  subst hpv
  clear h ho ht htx hsx hbx
  go_enter Tryd.func16, Tryd.ntmps16
  go_wp2_with fail
  refine HC.out.mono ?_
  rintro e w1 ⟨rfl, v1, h1, h2, h3⟩
  have HX : Hid (∃ v', Wr w1 p v' (zs) 1 base ∧ Keeps (Foot p v) (w.alloc (.cells #[.int .i64 7, .int .i64 pos, .int .u64 (n : Int), .int .i64 num, (.slice pa ps.length pc), .string s] 36)) w1 ∧ At (w.alloc (.cells #[.int .i64 7, .int .i64 pos, .int .u64 (n : Int), .int .i64 num, (.slice pa ps.length pc), .string s] 36)) v v') := ⟨v1, h1, h2, h3⟩
  have HE : Hid (Wr w1 p v1 (zs) 1 base) := h1
  clear h1 h2 h3 HC
  go_wp2_with fail
  refine (err_any HE.out).mono ?_
  rintro e w' ⟨rfl, hw⟩
  rw [hw]
  clear hw w'
  go_wp2
  go_ret
  exact laid_close HF.out HX.out _ (by decide)
set_option maxRecDepth 100000 in
set_option maxHeartbeats 2000000 in
theorem laid_seal {w : World} {p base : Nat} {v : Value} {zs : List Nat} {pos num : Int} {n : Nat} {pv : Value} {ps : List Nat} {s : ByteArray} (h : Wr w p v zs 0 base) (ho : Sl w pv ps ∧ n < 18446744073709551616 ∧ ps.length ≤ 549755813888 ∧ s.size ≤ 549755813888) (hl : zs.length ≤ 549755813888) (hb : base ≤ w.heap.size) (ht : Tab w) (h1 : 0 ≤ num) (h2 : num ≤ (zs.length : Int)) :
    Calls Tryd.prog 16 #[.pointer (some ⟨p, 0, none⟩), .agg #[.int .i64 8, .int .i64 pos, .int .u64 (n : Int), .int .i64 num, pv, .string s]] w (LaidPost w p base v zs ⟨8, pos, n, num, pv, ps, s⟩) := by
  have HW : Hid (Wr (w.alloc (.cells #[.int .i64 8, .int .i64 pos, .int .u64 (n : Int), .int .i64 num, pv, .string s] 36)) p v zs 0 base) := h.alloc _
  have hbx : base ≤ (w.alloc (.cells #[.int .i64 8, .int .i64 pos, .int .u64 (n : Int), .int .i64 num, pv, .string s] 36)).heap.size := by simp; omega
  have htx : Tab (w.alloc (.cells #[.int .i64 8, .int .i64 pos, .int .u64 (n : Int), .int .i64 num, pv, .string s] 36)) := ht.below ((Below.refl _ _).alloc (Nat.le_refl _) _)
  have hsx : Sl (w.alloc (.cells #[.int .i64 8, .int .i64 pos, .int .u64 (n : Int), .int .i64 num, pv, .string s] 36)) pv ps := ho.1.below ((Below.refl _ _).alloc (Nat.le_refl _) _)
  have hn := ho.2.1
  have hps := ho.2.2.1
  have hss := ho.2.2.2
  have _ := hl
  obtain ⟨pa, pc, hpv⟩ : ∃ a c, pv = .slice a ps.length c := by
    obtain ⟨a, c, e, _⟩ := ho.1
    exact ⟨a, c, e⟩
  have HF : Hid (layF zs ⟨8, pos, n, num, pv, ps, s⟩ = (zs ++ Pl.le 4 (Pl.crc (zs.drop num.toNat)), 0)) := by show _ = _; simp [layF, h1, h2]
  have HC : Hid (Calls Tryd.prog 42 #[.pointer (some ⟨p, 0, none⟩), .int .i64 num] (w.alloc (.cells #[.int .i64 8, .int .i64 pos, .int .u64 (n : Int), .int .i64 num, pv, .string s] 36)) fun e w' => e = .returned (.tuple #[]) ∧ ∃ v', Wr w' p v' (zs ++ Pl.le 4 (Pl.crc (zs.drop num.toNat))) 0 base ∧ Keeps (Foot p v) (w.alloc (.cells #[.int .i64 8, .int .i64 pos, .int .u64 (n : Int), .int .i64 num, pv, .string s] 36)) w' ∧ At (w.alloc (.cells #[.int .i64 8, .int .i64 pos, .int .u64 (n : Int), .int .i64 num, pv, .string s] 36)) v v') := wseal_int htx HW.out h1 h2 hl hbx
  subst hpv
  clear h ho ht htx hsx hbx
  go_enter Tryd.func16, Tryd.ntmps16
  go_wp2_with fail
  refine HC.out.mono ?_
  rintro e w1 ⟨rfl, v1, h1, h2, h3⟩
  have HX : Hid (∃ v', Wr w1 p v' (zs ++ Pl.le 4 (Pl.crc (zs.drop num.toNat))) 0 base ∧ Keeps (Foot p v) (w.alloc (.cells #[.int .i64 8, .int .i64 pos, .int .u64 (n : Int), .int .i64 num, (.slice pa ps.length pc), .string s] 36)) w1 ∧ At (w.alloc (.cells #[.int .i64 8, .int .i64 pos, .int .u64 (n : Int), .int .i64 num, (.slice pa ps.length pc), .string s] 36)) v v') := ⟨v1, h1, h2, h3⟩
  have HE : Hid (Wr w1 p v1 (zs ++ Pl.le 4 (Pl.crc (zs.drop num.toNat))) 0 base) := h1
  clear h1 h2 h3 HC
  go_wp2_with fail
  refine (err_any HE.out).mono ?_
  rintro e w' ⟨rfl, hw⟩
  rw [hw]
  clear hw w'
  go_wp2
  go_ret
  exact laid_close HF.out HX.out _ (by decide)
set_option maxRecDepth 100000 in
set_option maxHeartbeats 2000000 in
theorem laid_sealbad {w : World} {p base : Nat} {v : Value} {zs : List Nat} {pos num : Int} {n : Nat} {pv : Value} {ps : List Nat} {s : ByteArray} (h : Wr w p v zs 0 base) (ho : Sl w pv ps ∧ n < 18446744073709551616 ∧ ps.length ≤ 549755813888 ∧ s.size ≤ 549755813888) (hl : zs.length ≤ 549755813888) (hb : base ≤ w.heap.size) (ht : Tab w) (h1 : num < 0 ∨ (zs.length : Int) < num) :
    Calls Tryd.prog 16 #[.pointer (some ⟨p, 0, none⟩), .agg #[.int .i64 8, .int .i64 pos, .int .u64 (n : Int), .int .i64 num, pv, .string s]] w (LaidPost w p base v zs ⟨8, pos, n, num, pv, ps, s⟩) := by
  have HW : Hid (Wr (w.alloc (.cells #[.int .i64 8, .int .i64 pos, .int .u64 (n : Int), .int .i64 num, pv, .string s] 36)) p v zs 0 base) := h.alloc _
  have hbx : base ≤ (w.alloc (.cells #[.int .i64 8, .int .i64 pos, .int .u64 (n : Int), .int .i64 num, pv, .string s] 36)).heap.size := by simp; omega
  have htx : Tab (w.alloc (.cells #[.int .i64 8, .int .i64 pos, .int .u64 (n : Int), .int .i64 num, pv, .string s] 36)) := ht.below ((Below.refl _ _).alloc (Nat.le_refl _) _)
  have hsx : Sl (w.alloc (.cells #[.int .i64 8, .int .i64 pos, .int .u64 (n : Int), .int .i64 num, pv, .string s] 36)) pv ps := ho.1.below ((Below.refl _ _).alloc (Nat.le_refl _) _)
  have hn := ho.2.1
  have hps := ho.2.2.1
  have hss := ho.2.2.2
  have _ := hl
  obtain ⟨pa, pc, hpv⟩ : ∃ a c, pv = .slice a ps.length c := by
    obtain ⟨a, c, e, _⟩ := ho.1
    exact ⟨a, c, e⟩
  have HF : Hid (layF zs ⟨8, pos, n, num, pv, ps, s⟩ = (zs, 1)) := by show _ = _; simp [layF]; omega
  have HC : Hid (Calls Tryd.prog 42 #[.pointer (some ⟨p, 0, none⟩), .int .i64 num] (w.alloc (.cells #[.int .i64 8, .int .i64 pos, .int .u64 (n : Int), .int .i64 num, pv, .string s] 36)) fun e w' => e = .returned (.tuple #[]) ∧ ∃ v', Wr w' p v' (zs) 1 base ∧ Keeps (Foot p v) (w.alloc (.cells #[.int .i64 8, .int .i64 pos, .int .u64 (n : Int), .int .i64 num, pv, .string s] 36)) w' ∧ At (w.alloc (.cells #[.int .i64 8, .int .i64 pos, .int .u64 (n : Int), .int .i64 num, pv, .string s] 36)) v v') := wseal_bad' HW.out h1
  subst hpv
  clear h ho ht htx hsx hbx
  go_enter Tryd.func16, Tryd.ntmps16
  go_wp2_with fail
  refine HC.out.mono ?_
  rintro e w1 ⟨rfl, v1, h1, h2, h3⟩
  have HX : Hid (∃ v', Wr w1 p v' (zs) 1 base ∧ Keeps (Foot p v) (w.alloc (.cells #[.int .i64 8, .int .i64 pos, .int .u64 (n : Int), .int .i64 num, (.slice pa ps.length pc), .string s] 36)) w1 ∧ At (w.alloc (.cells #[.int .i64 8, .int .i64 pos, .int .u64 (n : Int), .int .i64 num, (.slice pa ps.length pc), .string s] 36)) v v') := ⟨v1, h1, h2, h3⟩
  have HE : Hid (Wr w1 p v1 (zs) 1 base) := h1
  clear h1 h2 h3 HC
  go_wp2_with fail
  refine (err_any HE.out).mono ?_
  rintro e w' ⟨rfl, hw⟩
  rw [hw]
  clear hw w'
  go_wp2
  go_ret
  exact laid_close HF.out HX.out _ (by decide)
set_option maxRecDepth 100000 in
set_option maxHeartbeats 2000000 in
theorem laid_other {w : World} {p base : Nat} {v : Value} {zs : List Nat} {kind pos num : Int} {n : Nat} {pv : Value} {ps : List Nat} {s : ByteArray} (h : Wr w p v zs 0 base) (ho : Sl w pv ps ∧ n < 18446744073709551616 ∧ ps.length ≤ 549755813888 ∧ s.size ≤ 549755813888) (k1 : kind ≠ 1) (k2 : kind ≠ 2) (k3 : kind ≠ 3) (k4 : kind ≠ 4) (k5 : kind ≠ 5) (k6 : kind ≠ 6) (k7 : kind ≠ 7) (k8 : kind ≠ 8) :
    Calls Tryd.prog 16 #[.pointer (some ⟨p, 0, none⟩), .agg #[.int .i64 kind, .int .i64 pos, .int .u64 (n : Int), .int .i64 num, pv, .string s]] w (LaidPost w p base v zs ⟨kind, pos, n, num, pv, ps, s⟩) := by
  have HW : Hid (Wr (w.alloc (.cells #[.int .i64 kind, .int .i64 pos, .int .u64 (n : Int), .int .i64 num, pv, .string s] 36)) p v zs 0 base) := h.alloc _
  have HF : Hid (layF zs ⟨kind, pos, n, num, pv, ps, s⟩ = (zs, 0)) := by show _ = _; simp [layF, k1, k2, k3, k4, k5, k6, k7, k8]
  obtain ⟨pa, pc, hpv⟩ : ∃ a c, pv = .slice a ps.length c := by
    obtain ⟨a, c, e, _⟩ := ho.1
    exact ⟨a, c, e⟩
  have HX : Hid (∃ v', Wr (w.alloc (.cells #[.int .i64 kind, .int .i64 pos, .int .u64 (n : Int), .int .i64 num, pv, .string s] 36)) p v' zs 0 base ∧ Keeps (Foot p v) (w.alloc (.cells #[.int .i64 kind, .int .i64 pos, .int .u64 (n : Int), .int .i64 num, pv, .string s] 36)) (w.alloc (.cells #[.int .i64 kind, .int .i64 pos, .int .u64 (n : Int), .int .i64 num, pv, .string s] 36)) ∧ At (w.alloc (.cells #[.int .i64 kind, .int .i64 pos, .int .u64 (n : Int), .int .i64 num, pv, .string s] 36)) v v') := ⟨v, HW.out, Keeps.refl _ _, .inl rfl⟩
  subst hpv
  clear h ho
  go_enter Tryd.func16, Tryd.ntmps16
  go_wp2_with fail
  refine (err_any HW.out).mono ?_
  rintro e w' ⟨rfl, hw⟩
  rw [hw]
  clear hw w'
  go_wp2
  go_ret
  exact laid_close HF.out HX.out _ (by decide)
theorem out_of {a : Int} (h : ¬ (1 ≤ a ∧ a ≤ 4096)) : a < 1 ∨ 4096 < a := by omega
theorem out_of2 {a b : Int} (h : ¬ (0 ≤ a ∧ a ≤ b)) : a < 0 ∨ b < a := by omega
theorem laid_any {w : World} {p base : Nat} {v : Value} {zs : List Nat} {o : OpV} (h : Wr w p v zs 0 base) (ho : o.Fit w) (hl : zs.length ≤ 549755813888) (hb : base ≤ w.heap.size) (ht : Tab w) :
    Calls Tryd.prog 16 #[.pointer (some ⟨p, 0, none⟩), .agg o.vals] w (LaidPost w p base v zs o) := by
  obtain ⟨kind, pos, n, num, pv, ps, s⟩ := o
  by_cases k1 : kind = 1
  · subst k1; exact laid_byte h ho hl hb ht
  by_cases k2 : kind = 2
  · subst k2; exact laid_half h ho hl hb ht
  by_cases k3 : kind = 3
  · subst k3; exact laid_word h ho hl hb ht
  by_cases k4 : kind = 4
  · subst k4; exact laid_long h ho hl hb ht
  by_cases k5 : kind = 5
  · subst k5; exact laid_bytes h ho hl hb ht
  by_cases k6 : kind = 6
  · subst k6
    by_cases hs : s.size ≤ 65535
    · exact laid_text h ho hl hb ht hs
    · exact laid_textlong h ho hl hb ht (Nat.lt_of_not_le hs)
  by_cases k7 : kind = 7
  · subst k7
    by_cases hs : 1 ≤ num ∧ num ≤ 4096
    · exact laid_pad h ho hl hb ht hs.1 hs.2
    · exact laid_padbad h ho hl hb ht (out_of hs)
  by_cases k8 : kind = 8
  · subst k8
    by_cases hs : 0 ≤ num ∧ num ≤ (zs.length : Int)
    · exact laid_seal h ho hl hb ht hs.1 hs.2
    · exact laid_sealbad h ho hl hb ht (out_of2 hs)
  exact laid_other h ho k1 k2 k3 k4 k5 k6 k7 k8
end Go.Proofs.YtlcjdofciogfaaaDoor
