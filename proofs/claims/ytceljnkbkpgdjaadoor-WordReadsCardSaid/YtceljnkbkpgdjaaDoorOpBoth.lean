/- A step of a script as a value; what a step leaves (the head of OpLay). -/
import Derived.Test.YtceljnkbkpgdjaaDoorRwOps
namespace Go.Proofs.YtceljnkbkpgdjaaDoor
open Go.RowKit
structure OpV where
  kind : Int
  pos : Int
  n : Nat
  num : Int
  pv : Value
  ps : List Nat
  s : ByteArray
def OpV.vals (o : OpV) : Array Value := #[.int .i64 o.kind, .int .i64 o.pos, .int .u64 (o.n : Int), .int .i64 o.num, o.pv, .string o.s]
/-- its bytes lie in memory; its number is one -/
def OpV.Fit (w : World) (o : OpV) : Prop := Sl w o.pv o.ps ∧ o.n < 18446744073709551616 ∧ o.ps.length ≤ 549755813888 ∧ o.s.size ≤ 549755813888
/-- what a Writer that has refused nothing has behind a step, and its refusal -/
def layF (zs : List Nat) (o : OpV) : List Nat × Int :=
  if o.kind = 1 then (zs ++ Pl.le 1 (o.n % 256), 0)
  else if o.kind = 2 then (zs ++ Pl.le 2 (o.n % 65536), 0)
  else if o.kind = 3 then (zs ++ Pl.le 4 (o.n % 4294967296), 0)
  else if o.kind = 4 then (zs ++ Pl.le 8 o.n, 0)
  else if o.kind = 5 then (zs ++ o.ps, 0)
  else if o.kind = 6 then (if o.s.size ≤ 65535 then (zs ++ (Pl.le 2 o.s.size ++ sb o.s), 0) else (zs, 3))
  else if o.kind = 7 then (if 1 ≤ o.num ∧ o.num ≤ 4096 then (zs ++ List.replicate (gapN zs.length o.num.toNat) 0, 0) else (zs, 1))
  else if o.kind = 8 then (if 0 ≤ o.num ∧ o.num ≤ zs.length then (zs ++ Pl.le 4 (Pl.crc (zs.drop o.num.toNat)), 0) else (zs, 1))
  else (zs, 0)
theorem At.alloc {w : World} {o : Obj} {v v' : Value} (h : At (w.alloc o) v v') : At w v v' := by
  rcases h with h | ⟨k, hk, hle⟩
  · exact .inl h
  · exact .inr ⟨k, hk, by simp at hle; omega⟩
theorem Wr.alloc {w : World} {p : Nat} {v : Value} {zs : List Nat} {why : Int} {base : Nat} (h : Wr w p v zs why base) (o : Obj) : Wr (w.alloc o) p v zs why base :=
  h.keeps (Keeps.alloc (S := fun _ => False) w o) (fun h => h) (fun _ _ h => h)
theorem u8_mod (n : Nat) : ((n % 256 : Nat) : Int) = (n : Int) % 256 := by omega
theorem u16_mod (n : Nat) : ((n % 65536 : Nat) : Int) = IntKind.u16.wrap (n : Int) := by rw [show IntKind.u16.wrap (n : Int) = (n : Int) % 65536 from rfl]; omega
theorem u32_mod (n : Nat) : ((n % 4294967296 : Nat) : Int) = IntKind.u32.wrap (n : Int) := by rw [show IntKind.u32.wrap (n : Int) = (n : Int) % 4294967296 from rfl]; omega
theorem wpad_int {w : World} {p base : Nat} {num : Int} {v : Value} {zs : List Nat} (h : Wr w p v zs 0 base) (h1 : 1 ≤ num) (h2 : num ≤ 4096) (hl : zs.length ≤ 549755813888) (hb : base ≤ w.heap.size) :
    Calls Tryd.prog 40 #[.pointer (some ⟨p, 0, none⟩), .int .i64 num] w fun e w' => e = .returned (.tuple #[]) ∧ ∃ v', Wr w' p v' (zs ++ List.replicate (gapN zs.length num.toNat) 0) 0 base ∧ Keeps (Foot p v) w w' ∧ At w v v' := by
  obtain ⟨m, rfl⟩ := Int.eq_ofNat_of_zero_le (show 0 ≤ num by omega)
  exact wpad_any h (by omega) (by omega) hl hb
theorem wseal_int {w : World} {p base : Nat} {num : Int} {v : Value} {zs : List Nat} (ht : Tab w) (h : Wr w p v zs 0 base) (h1 : 0 ≤ num) (h2 : num ≤ (zs.length : Int)) (hl : zs.length ≤ 549755813888) (hb : base ≤ w.heap.size) :
    Calls Tryd.prog 42 #[.pointer (some ⟨p, 0, none⟩), .int .i64 num] w fun e w' => e = .returned (.tuple #[]) ∧ ∃ v', Wr w' p v' (zs ++ Pl.le 4 (Pl.crc (zs.drop num.toNat))) 0 base ∧ Keeps (Foot p v) w w' ∧ At w v v' := by
  obtain ⟨m, rfl⟩ := Int.eq_ofNat_of_zero_le h1
  exact wseal_any ht h (by omega) hl hb
theorem refused_foot {w w' : World} {p base : Nat} {v : Value} {zs : List Nat} {why : Int} (h : Wr w' p v zs why base) (hk : Keeps (fun k => k = p) w w') : ∃ v', Wr w' p v' zs why base ∧ Keeps (Foot p v) w w' ∧ At w v v' :=
  ⟨v, h, hk.mono (fun _ _ e => .inl e), .inl rfl⟩
theorem wpad_bad' {w : World} {p base : Nat} {al : Int} {v : Value} {zs : List Nat} (h : Wr w p v zs 0 base) (ha : al < 1 ∨ 4096 < al) :
    Calls Tryd.prog 40 #[.pointer (some ⟨p, 0, none⟩), .int .i64 al] w fun e w' => e = .returned (.tuple #[]) ∧ ∃ v', Wr w' p v' zs 1 base ∧ Keeps (Foot p v) w w' ∧ At w v v' :=
  (wpad_bad h ha).mono fun _ _ hx => ⟨hx.1, refused_foot hx.2.1 hx.2.2⟩
theorem wseal_bad' {w : World} {p base : Nat} {fr : Int} {v : Value} {zs : List Nat} (h : Wr w p v zs 0 base) (hf : fr < 0 ∨ (zs.length : Int) < fr) :
    Calls Tryd.prog 42 #[.pointer (some ⟨p, 0, none⟩), .int .i64 fr] w fun e w' => e = .returned (.tuple #[]) ∧ ∃ v', Wr w' p v' zs 1 base ∧ Keeps (Foot p v) w w' ∧ At w v v' :=
  (wseal_bad h hf).mono fun _ _ hx => ⟨hx.1, refused_foot hx.2.1 hx.2.2⟩
theorem wtext_long' {w : World} {p base : Nat} {v : Value} {zs : List Nat} {s : ByteArray} (h : Wr w p v zs 0 base) (hs : 65535 < s.size) :
    Calls Tryd.prog 38 #[.pointer (some ⟨p, 0, none⟩), .string s] w fun e w' => e = .returned (.tuple #[]) ∧ ∃ v', Wr w' p v' zs 3 base ∧ Keeps (Foot p v) w w' ∧ At w v v' :=
  (wtext_long h hs).mono fun _ _ hx => ⟨hx.1, refused_foot hx.2.1 hx.2.2⟩

/-- what a Writer has behind a step, and its refusal -/
def layW (zs : List Nat) (why : Int) (o : OpV) : List Nat × Int := if why = 0 then layF zs o else (zs, why)
/-- what a call on a Writer leaves -/
def WPost (w : World) (p base : Nat) (v : Value) (x : List Nat × Int) (w' : World) : Prop := ∃ v', Wr w' p v' x.1 x.2 base ∧ Keeps (Foot p v) w w' ∧ At w v v'
def RPost (w : World) (p base : Nat) (v : Value) (x : List Nat × Int) (w' : World) : Prop := ∃ v', Rw w' p v' x.1 x.2 base ∧ Keeps (Foot p v) w w' ∧ At w v v'
theorem WPost.same {w w' : World} {p base : Nat} {v : Value} {zs : List Nat} {why : Int} (h : Wr w p v zs why base) (e : w' = w) : WPost w p base v (zs, why) w' := by subst e; exact ⟨v, h, Keeps.refl _ _, .inl rfl⟩
theorem RPost.same {w w' : World} {p base : Nat} {v : Value} {zs : List Nat} {why : Int} (h : Rw w p v zs why base) (e : w' = w) : RPost w p base v (zs, why) w' := by subst e; exact ⟨v, h, Keeps.refl _ _, .inl rfl⟩
theorem RPost.below {w w' : World} {p base : Nat} {v : Value} {zs : List Nat} {why : Int} (h : Rw w p v zs why base) (e : Below w.heap.size w w') : RPost w p base v (zs, why) w' := ⟨v, h.keeps (S := fun _ => False) (Keeps.of_below e) id (fun _ _ => id), Keeps.of_below e, .inl rfl⟩
theorem RPost.refuse {w w' : World} {p base : Nat} {v : Value} {zs : List Nat} {why : Int} (h : Rw w' p v zs why base) (hk : Keeps (fun k => k = p) w w') : RPost w p base v (zs, why) w' := ⟨v, h, hk.mono (fun _ _ e => .inl e), .inl rfl⟩
theorem le_mod1 (n : Nat) : Pl.le 1 (n % 256) = Pl.le 1 n := by simp [Pl.le]
theorem le_mod2 (n : Nat) : Pl.le 2 (n % 65536) = Pl.le 2 n := by
  simp only [Pl.le, List.cons.injEq, and_true]
  omega
theorem le_mod4 (n : Nat) : Pl.le 4 (n % 4294967296) = Pl.le 4 n := by
  simp only [Pl.le, List.cons.injEq, and_true]
  omega

theorem wByte_lay {w : World} {p base : Nat} {v : Value} {zs : List Nat} {why : Int} {pos num : Int} {n : Nat} {pv : Value} {ps : List Nat} {s : ByteArray} (h : Wr w p v zs why base) (_hn : n < 18446744073709551616) (hl : zs.length ≤ 549755813888) (hb : base ≤ w.heap.size) :
    Calls Tryd.prog 31 #[.pointer (some ⟨p, 0, none⟩), .int .u8 (((n % 256) : Nat) : Int)] w fun e w' => e = .returned (.tuple #[]) ∧ WPost w p base v (layW zs why ⟨1, pos, n, num, pv, ps, s⟩) w' := by
  by_cases h0 : why = 0
  · subst h0
    rw [show layW zs 0 ⟨1, pos, n, num, pv, ps, s⟩ = (zs ++ Pl.le 1 (n % 256), 0) by simp [layW, layF]]
    exact (put_u8 h (by omega) hl hb)
  · rw [show layW zs why ⟨1, pos, n, num, pv, ps, s⟩ = (zs, why) by simp [layW, h0]]
    exact (put_u8_not h h0).mono fun e w' hx => ⟨hx.1, WPost.same h hx.2⟩
theorem rByte_lay {w : World} {p base : Nat} {v : Value} {zs : List Nat} {why : Int} {pos num : Int} {n : Nat} {pv : Value} {ps : List Nat} {s : ByteArray} (h : Rw w p v zs why base) (hn : n < 18446744073709551616) (hl : zs.length ≤ 549755813888) (hb : base ≤ w.heap.size) :
    Calls Tryd.prog 32 #[.pointer (some ⟨p, 0, none⟩), .int .u64 (n : Int), .int .i64 1] w fun e w' => e = .returned (.tuple #[]) ∧ RPost w p base v (layW zs why ⟨1, pos, n, num, pv, ps, s⟩) w' := by
  by_cases h0 : why = 0
  · subst h0
    rw [show layW zs 0 ⟨1, pos, n, num, pv, ps, s⟩ = (zs ++ Pl.le 1 n, 0) by simp [layW, layF, le_mod1]]
    exact (rwNumber_any (s := 1) h (by omega) (by omega) hl hb)
  · rw [show layW zs why ⟨1, pos, n, num, pv, ps, s⟩ = (zs, why) by simp [layW, h0]]
    exact (rwNumber_not h h0).mono fun e w' hx => ⟨hx.1, RPost.same h hx.2⟩
theorem wHalf_lay {w : World} {p base : Nat} {v : Value} {zs : List Nat} {why : Int} {pos num : Int} {n : Nat} {pv : Value} {ps : List Nat} {s : ByteArray} (h : Wr w p v zs why base) (_hn : n < 18446744073709551616) (hl : zs.length ≤ 549755813888) (hb : base ≤ w.heap.size) :
    Calls Tryd.prog 33 #[.pointer (some ⟨p, 0, none⟩), .int .u16 (((n % 65536) : Nat) : Int)] w fun e w' => e = .returned (.tuple #[]) ∧ WPost w p base v (layW zs why ⟨2, pos, n, num, pv, ps, s⟩) w' := by
  by_cases h0 : why = 0
  · subst h0
    rw [show layW zs 0 ⟨2, pos, n, num, pv, ps, s⟩ = (zs ++ Pl.le 2 (n % 65536), 0) by simp [layW, layF]]
    exact (put_u16 h (by omega) hl hb)
  · rw [show layW zs why ⟨2, pos, n, num, pv, ps, s⟩ = (zs, why) by simp [layW, h0]]
    exact (put_u16_not h h0).mono fun e w' hx => ⟨hx.1, WPost.same h hx.2⟩
theorem rHalf_lay {w : World} {p base : Nat} {v : Value} {zs : List Nat} {why : Int} {pos num : Int} {n : Nat} {pv : Value} {ps : List Nat} {s : ByteArray} (h : Rw w p v zs why base) (hn : n < 18446744073709551616) (hl : zs.length ≤ 549755813888) (hb : base ≤ w.heap.size) :
    Calls Tryd.prog 32 #[.pointer (some ⟨p, 0, none⟩), .int .u64 (n : Int), .int .i64 2] w fun e w' => e = .returned (.tuple #[]) ∧ RPost w p base v (layW zs why ⟨2, pos, n, num, pv, ps, s⟩) w' := by
  by_cases h0 : why = 0
  · subst h0
    rw [show layW zs 0 ⟨2, pos, n, num, pv, ps, s⟩ = (zs ++ Pl.le 2 n, 0) by simp [layW, layF, le_mod2]]
    exact (rwNumber_any (s := 2) h (by omega) (by omega) hl hb)
  · rw [show layW zs why ⟨2, pos, n, num, pv, ps, s⟩ = (zs, why) by simp [layW, h0]]
    exact (rwNumber_not h h0).mono fun e w' hx => ⟨hx.1, RPost.same h hx.2⟩
theorem wWord_lay {w : World} {p base : Nat} {v : Value} {zs : List Nat} {why : Int} {pos num : Int} {n : Nat} {pv : Value} {ps : List Nat} {s : ByteArray} (h : Wr w p v zs why base) (_hn : n < 18446744073709551616) (hl : zs.length ≤ 549755813888) (hb : base ≤ w.heap.size) :
    Calls Tryd.prog 34 #[.pointer (some ⟨p, 0, none⟩), .int .u32 (((n % 4294967296) : Nat) : Int)] w fun e w' => e = .returned (.tuple #[]) ∧ WPost w p base v (layW zs why ⟨3, pos, n, num, pv, ps, s⟩) w' := by
  by_cases h0 : why = 0
  · subst h0
    rw [show layW zs 0 ⟨3, pos, n, num, pv, ps, s⟩ = (zs ++ Pl.le 4 (n % 4294967296), 0) by simp [layW, layF]]
    exact (put_u32 h (by omega) hl hb)
  · rw [show layW zs why ⟨3, pos, n, num, pv, ps, s⟩ = (zs, why) by simp [layW, h0]]
    exact (put_u32_not h h0).mono fun e w' hx => ⟨hx.1, WPost.same h hx.2⟩
theorem rWord_lay {w : World} {p base : Nat} {v : Value} {zs : List Nat} {why : Int} {pos num : Int} {n : Nat} {pv : Value} {ps : List Nat} {s : ByteArray} (h : Rw w p v zs why base) (hn : n < 18446744073709551616) (hl : zs.length ≤ 549755813888) (hb : base ≤ w.heap.size) :
    Calls Tryd.prog 32 #[.pointer (some ⟨p, 0, none⟩), .int .u64 (n : Int), .int .i64 4] w fun e w' => e = .returned (.tuple #[]) ∧ RPost w p base v (layW zs why ⟨3, pos, n, num, pv, ps, s⟩) w' := by
  by_cases h0 : why = 0
  · subst h0
    rw [show layW zs 0 ⟨3, pos, n, num, pv, ps, s⟩ = (zs ++ Pl.le 4 n, 0) by simp [layW, layF, le_mod4]]
    exact (rwNumber_any (s := 4) h (by omega) (by omega) hl hb)
  · rw [show layW zs why ⟨3, pos, n, num, pv, ps, s⟩ = (zs, why) by simp [layW, h0]]
    exact (rwNumber_not h h0).mono fun e w' hx => ⟨hx.1, RPost.same h hx.2⟩
theorem wLong_lay {w : World} {p base : Nat} {v : Value} {zs : List Nat} {why : Int} {pos num : Int} {n : Nat} {pv : Value} {ps : List Nat} {s : ByteArray} (h : Wr w p v zs why base) (hn : n < 18446744073709551616) (hl : zs.length ≤ 549755813888) (hb : base ≤ w.heap.size) :
    Calls Tryd.prog 35 #[.pointer (some ⟨p, 0, none⟩), .int .u64 ((n : Nat) : Int)] w fun e w' => e = .returned (.tuple #[]) ∧ WPost w p base v (layW zs why ⟨4, pos, n, num, pv, ps, s⟩) w' := by
  by_cases h0 : why = 0
  · subst h0
    rw [show layW zs 0 ⟨4, pos, n, num, pv, ps, s⟩ = (zs ++ Pl.le 8 n, 0) by simp [layW, layF]]
    exact (put_u64 h (by omega) hl hb)
  · rw [show layW zs why ⟨4, pos, n, num, pv, ps, s⟩ = (zs, why) by simp [layW, h0]]
    exact (put_u64_not h h0).mono fun e w' hx => ⟨hx.1, WPost.same h hx.2⟩
theorem rLong_lay {w : World} {p base : Nat} {v : Value} {zs : List Nat} {why : Int} {pos num : Int} {n : Nat} {pv : Value} {ps : List Nat} {s : ByteArray} (h : Rw w p v zs why base) (hn : n < 18446744073709551616) (hl : zs.length ≤ 549755813888) (hb : base ≤ w.heap.size) :
    Calls Tryd.prog 32 #[.pointer (some ⟨p, 0, none⟩), .int .u64 (n : Int), .int .i64 8] w fun e w' => e = .returned (.tuple #[]) ∧ RPost w p base v (layW zs why ⟨4, pos, n, num, pv, ps, s⟩) w' := by
  by_cases h0 : why = 0
  · subst h0
    rw [show layW zs 0 ⟨4, pos, n, num, pv, ps, s⟩ = (zs ++ Pl.le 8 n, 0) by simp [layW, layF]]
    exact (rwNumber_any (s := 8) h (by omega) (by omega) hl hb)
  · rw [show layW zs why ⟨4, pos, n, num, pv, ps, s⟩ = (zs, why) by simp [layW, h0]]
    exact (rwNumber_not h h0).mono fun e w' hx => ⟨hx.1, RPost.same h hx.2⟩
theorem wBytes_lay {w : World} {p base : Nat} {v : Value} {zs : List Nat} {why : Int} {pos num : Int} {n : Nat} {pv : Value} {ps : List Nat} {s : ByteArray} {u : Value} (h : Wr w p v zs why base) (hs : Sl w u ps) (hp : ps.length ≤ 549755813888) (hl : zs.length ≤ 549755813888) (hb : base ≤ w.heap.size) :
    Calls Tryd.prog 36 #[.pointer (some ⟨p, 0, none⟩), u] w fun e w' => e = .returned (.tuple #[]) ∧ WPost w p base v (layW zs why ⟨5, pos, n, num, pv, ps, s⟩) w' := by
  by_cases h0 : why = 0
  · subst h0
    rw [show layW zs 0 ⟨5, pos, n, num, pv, ps, s⟩ = (zs ++ ps, 0) by simp [layW, layF]]
    exact (wbytes_any h hs hl hp hb)
  · rw [show layW zs why ⟨5, pos, n, num, pv, ps, s⟩ = (zs, why) by simp [layW, h0]]
    exact (wbytes_not h h0).mono fun e w' hx => ⟨hx.1, WPost.same h hx.2⟩
theorem rBytes_lay {w : World} {p base : Nat} {v : Value} {zs : List Nat} {why : Int} {pos num : Int} {n : Nat} {pv : Value} {ps : List Nat} {s : ByteArray} {u : Value} (h : Rw w p v zs why base) (hs : Sl w u ps) (hp : ps.length ≤ 549755813888) (hl : zs.length ≤ 549755813888) (hb : base ≤ w.heap.size) :
    Calls Tryd.prog 37 #[.pointer (some ⟨p, 0, none⟩), u] w fun e w' => e = .returned (.tuple #[]) ∧ RPost w p base v (layW zs why ⟨5, pos, n, num, pv, ps, s⟩) w' := by
  by_cases h0 : why = 0
  · subst h0
    rw [show layW zs 0 ⟨5, pos, n, num, pv, ps, s⟩ = (zs ++ ps, 0) by simp [layW, layF]]
    exact (rwBytes_any h hs hl hp hb)
  · rw [show layW zs why ⟨5, pos, n, num, pv, ps, s⟩ = (zs, why) by simp [layW, h0]]
    exact (rwBytes_not h h0).mono fun e w' hx => ⟨hx.1, RPost.same h hx.2⟩
theorem wText_lay {w : World} {p base : Nat} {v : Value} {zs : List Nat} {why : Int} {pos num : Int} {n : Nat} {pv : Value} {ps : List Nat} {s : ByteArray} (h : Wr w p v zs why base) (hl : zs.length ≤ 549755812888) (hb : base ≤ w.heap.size) :
    Calls Tryd.prog 38 #[.pointer (some ⟨p, 0, none⟩), .string s] w fun e w' => e = .returned (.tuple #[]) ∧ WPost w p base v (layW zs why ⟨6, pos, n, num, pv, ps, s⟩) w' := by
  by_cases h0 : why = 0
  · subst h0
    by_cases hs : s.size ≤ 65535
    · rw [show layW zs 0 ⟨6, pos, n, num, pv, ps, s⟩ = (zs ++ (Pl.le 2 s.size ++ sb s), 0) by simp [layW, layF, hs]]
      exact (wtext_any h hs (by omega) hb)
    · rw [show layW zs 0 ⟨6, pos, n, num, pv, ps, s⟩ = (zs, 3) by simp [layW, layF, hs]]
      exact (wtext_long' h (by omega))
  · rw [show layW zs why ⟨6, pos, n, num, pv, ps, s⟩ = (zs, why) by simp [layW, h0]]
    exact (wtext_not h h0).mono fun e w' hx => ⟨hx.1, WPost.same h hx.2⟩
theorem rText_lay {w : World} {p base : Nat} {v : Value} {zs : List Nat} {why : Int} {pos num : Int} {n : Nat} {pv : Value} {ps : List Nat} {s : ByteArray} (h : Rw w p v zs why base) (hS : s.size ≤ 140737488355328) (hl : zs.length ≤ 549755812888) (hb : base ≤ w.heap.size) :
    Calls Tryd.prog 39 #[.pointer (some ⟨p, 0, none⟩), .string s] w fun e w' => e = .returned (.tuple #[]) ∧ RPost w p base v (layW zs why ⟨6, pos, n, num, pv, ps, s⟩) w' := by
  by_cases h0 : why = 0
  · subst h0
    by_cases hs : s.size ≤ 65535
    · rw [show layW zs 0 ⟨6, pos, n, num, pv, ps, s⟩ = (zs ++ (Pl.le 2 s.size ++ sb s), 0) by simp [layW, layF, hs]]
      exact (rwText_any h hs hl hb)
    · rw [show layW zs 0 ⟨6, pos, n, num, pv, ps, s⟩ = (zs, 3) by simp [layW, layF, hs]]
      exact (rwText_long h (by omega) hS).mono fun e w' hx => ⟨hx.1, RPost.refuse hx.2.1 hx.2.2⟩
  · rw [show layW zs why ⟨6, pos, n, num, pv, ps, s⟩ = (zs, why) by simp [layW, h0]]
    exact (rwText_not h h0 hS).mono fun e w' hx => ⟨hx.1, RPost.below h hx.2⟩
theorem wPad_lay {w : World} {p base : Nat} {v : Value} {zs : List Nat} {why : Int} {pos num : Int} {n : Nat} {pv : Value} {ps : List Nat} {s : ByteArray} (h : Wr w p v zs why base) (hl : zs.length ≤ 549755813888) (hb : base ≤ w.heap.size) :
    Calls Tryd.prog 40 #[.pointer (some ⟨p, 0, none⟩), .int .i64 num] w fun e w' => e = .returned (.tuple #[]) ∧ WPost w p base v (layW zs why ⟨7, pos, n, num, pv, ps, s⟩) w' := by
  by_cases h0 : why = 0
  · subst h0
    by_cases hs : 1 ≤ num ∧ num ≤ 4096
    · rw [show layW zs 0 ⟨7, pos, n, num, pv, ps, s⟩ = (zs ++ List.replicate (gapN zs.length num.toNat) 0, 0) by simp [layW, layF, hs]]
      exact (wpad_int h hs.1 hs.2 hl hb)
    · rw [show layW zs 0 ⟨7, pos, n, num, pv, ps, s⟩ = (zs, 1) by simp [layW, layF, hs]]
      exact (wpad_bad' h (by omega))
  · rw [show layW zs why ⟨7, pos, n, num, pv, ps, s⟩ = (zs, why) by simp [layW, h0]]
    exact (wpad_not h h0).mono fun e w' hx => ⟨hx.1, WPost.same h hx.2⟩
theorem rPad_lay {w : World} {p base : Nat} {v : Value} {zs : List Nat} {why : Int} {pos num : Int} {n : Nat} {pv : Value} {ps : List Nat} {s : ByteArray} (h : Rw w p v zs why base) (hl : zs.length ≤ 549755813888) (hb : base ≤ w.heap.size) :
    Calls Tryd.prog 41 #[.pointer (some ⟨p, 0, none⟩), .int .i64 num] w fun e w' => e = .returned (.tuple #[]) ∧ RPost w p base v (layW zs why ⟨7, pos, n, num, pv, ps, s⟩) w' := by
  by_cases h0 : why = 0
  · subst h0
    by_cases hs : 1 ≤ num ∧ num ≤ 4096
    · rw [show layW zs 0 ⟨7, pos, n, num, pv, ps, s⟩ = (zs ++ List.replicate (gapN zs.length num.toNat) 0, 0) by simp [layW, layF, hs]]
      obtain ⟨m, rfl⟩ := Int.eq_ofNat_of_zero_le (show 0 ≤ num by omega)
      exact (rwPad_any h (by omega) (by omega) hl hb)
    · rw [show layW zs 0 ⟨7, pos, n, num, pv, ps, s⟩ = (zs, 1) by simp [layW, layF, hs]]
      exact (rwPad_bad h (by omega)).mono fun e w' hx => ⟨hx.1, RPost.refuse hx.2.1 hx.2.2⟩
  · rw [show layW zs why ⟨7, pos, n, num, pv, ps, s⟩ = (zs, why) by simp [layW, h0]]
    exact (rwPad_not h h0).mono fun e w' hx => ⟨hx.1, RPost.same h hx.2⟩
theorem wSeal_lay {w : World} {p base : Nat} {v : Value} {zs : List Nat} {why : Int} {pos num : Int} {n : Nat} {pv : Value} {ps : List Nat} {s : ByteArray} (ht : Tab w) (h : Wr w p v zs why base) (hl : zs.length ≤ 549755813888) (hb : base ≤ w.heap.size) :
    Calls Tryd.prog 42 #[.pointer (some ⟨p, 0, none⟩), .int .i64 num] w fun e w' => e = .returned (.tuple #[]) ∧ WPost w p base v (layW zs why ⟨8, pos, n, num, pv, ps, s⟩) w' := by
  by_cases h0 : why = 0
  · subst h0
    by_cases hs : 0 ≤ num ∧ num ≤ (zs.length : Int)
    · rw [show layW zs 0 ⟨8, pos, n, num, pv, ps, s⟩ = (zs ++ Pl.le 4 (Pl.crc (zs.drop num.toNat)), 0) by simp [layW, layF, hs]]
      exact (wseal_int ht h hs.1 hs.2 hl hb)
    · rw [show layW zs 0 ⟨8, pos, n, num, pv, ps, s⟩ = (zs, 1) by simp [layW, layF, hs]]
      have hx : num < 0 ∨ (zs.length : Int) < num := by omega
      exact (wseal_bad' h hx)
  · rw [show layW zs why ⟨8, pos, n, num, pv, ps, s⟩ = (zs, why) by simp [layW, h0]]
    exact (wseal_not h h0).mono fun e w' hx => ⟨hx.1, WPost.same h hx.2⟩
theorem rSeal_lay {w : World} {p base : Nat} {v : Value} {zs : List Nat} {why : Int} {pos num : Int} {n : Nat} {pv : Value} {ps : List Nat} {s : ByteArray} (h : Rw w p v zs why base) (hl : zs.length ≤ 549755813888) (hb : base ≤ w.heap.size) :
    Calls Tryd.prog 43 #[.pointer (some ⟨p, 0, none⟩), .int .i64 num] w fun e w' => e = .returned (.tuple #[]) ∧ RPost w p base v (layW zs why ⟨8, pos, n, num, pv, ps, s⟩) w' := by
  by_cases h0 : why = 0
  · subst h0
    by_cases hs : 0 ≤ num ∧ num ≤ (zs.length : Int)
    · rw [show layW zs 0 ⟨8, pos, n, num, pv, ps, s⟩ = (zs ++ Pl.le 4 (Pl.crc (zs.drop num.toNat)), 0) by simp [layW, layF, hs]]
      obtain ⟨m, rfl⟩ := Int.eq_ofNat_of_zero_le hs.1
      exact (rwSeal_any (fr := m) h (by omega) hl hb)
    · rw [show layW zs 0 ⟨8, pos, n, num, pv, ps, s⟩ = (zs, 1) by simp [layW, layF, hs]]
      exact (rwSeal_bad h (by omega)).mono fun e w' hx => ⟨hx.1, RPost.refuse hx.2.1 hx.2.2⟩
  · rw [show layW zs why ⟨8, pos, n, num, pv, ps, s⟩ = (zs, why) by simp [layW, h0]]
    exact (rwSeal_not h h0).mono fun e w' hx => ⟨hx.1, RPost.same h hx.2⟩
end Go.Proofs.YtceljnkbkpgdjaaDoor
