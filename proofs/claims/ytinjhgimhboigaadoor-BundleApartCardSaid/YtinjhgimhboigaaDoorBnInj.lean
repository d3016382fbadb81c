/- Bundle: what is laid down says what was laid down: one part behind the other. Plain. Own work. -/
import Derived.Test.YtinjhgimhboigaaDoorBnSim
import Derived.Test.YtinjhgimhboigaaDoorBnHead
namespace Go.Proofs.YtinjhgimhboigaaDoor
open Bn
set_option linter.unusedVariables false
set_option linter.unusedSimpArgs false
theorem le_inj : ∀ (k a b : Nat), a < 256 ^ k → b < 256 ^ k → Pl.le k a = Pl.le k b → a = b
  | 0, a, b, ha, hb, _ => by simp at ha hb; omega
  | k + 1, a, b, ha, hb, h => by
    simp only [Pl.le, List.cons.injEq] at h
    have := le_inj k (a / 256) (b / 256) (by rw [Nat.pow_succ] at ha; omega) (by rw [Nat.pow_succ] at hb; omega) h.2
    omega
/-- f lays bytes behind what is there; of the same beginning with d, it says e -/
structure Cod {γ : Type} (d e : γ → γ → Prop) (f : γ → S → S) : Prop where
  up : ∀ x s, s.1 <+: (f x s).1
  why : ∀ x s, (f x s).2 = 0 → s.2 = 0
  inj : ∀ x y s t Z, d x y → s.1 = t.1 → (f x s).1 <+: Z → (f y t).1 <+: Z → (f x s).2 = 0 → (f y t).2 = 0 → e x y ∧ (f x s).1 = (f y t).1
theorem Cod.comp {γ : Type} {d e e' : γ → γ → Prop} {f g : γ → S → S} (hf : Cod d e f) (hg : Cod (fun x y => d x y ∧ e x y) e' g) : Cod d (fun x y => e x y ∧ e' x y) (fun x s => g x (f x s)) where
  up x s := (hf.up x s).trans (hg.up x _)
  why x s h := hf.why x s (hg.why x _ h)
  inj x y s t Z hd hs h1 h2 w1 w2 := by
    obtain ⟨a, b⟩ := hf.inj x y s t Z hd hs ((hg.up x _).trans h1) ((hg.up y _).trans h2) (hg.why x _ w1) (hg.why y _ w2)
    obtain ⟨a', b'⟩ := hg.inj x y _ _ Z ⟨hd, a⟩ b h1 h2 w1 w2
    exact ⟨⟨a, a'⟩, b'⟩
theorem Cod.weak {γ : Type} {d d' e e' : γ → γ → Prop} {f : γ → S → S} (hf : Cod d e f) (hd : ∀ x y, d' x y → d x y) (he : ∀ x y, d' x y → e x y → e' x y) : Cod d' e' f where
  up := hf.up
  why := hf.why
  inj x y s t Z h hs h1 h2 w1 w2 := by
    obtain ⟨a, b⟩ := hf.inj x y s t Z (hd x y h) hs h1 h2 w1 w2
    exact ⟨he x y h a, b⟩
theorem Cod.pre {γ α : Type} {d e : α → α → Prop} {f : α → S → S} (hf : Cod d e f) (p : γ → α) : Cod (fun x y => d (p x) (p y)) (fun x y => e (p x) (p y)) (fun x => f (p x)) where
  up x s := hf.up (p x) s
  why x s := hf.why (p x) s
  inj x y s t Z := hf.inj (p x) (p y) s t Z
/-- so many bytes, which say it -/
theorem pre_same {a b : List Nat} {Z : List Nat} (h1 : a <+: Z) (h2 : b <+: Z) (hl : a.length = b.length) : a = b :=
  List.IsPrefix.eq_of_length (List.prefix_of_prefix_length_le h1 h2 (by omega)) hl
theorem Cod.fix {γ : Type} {d e : γ → γ → Prop} {f : γ → S → S} (c : γ → List Nat) (hb : ∀ x s, (f x s).1 = s.1 ++ c x) (hw : ∀ x s, (f x s).2 = 0 → s.2 = 0) (hl : ∀ x y, d x y → (c x).length = (c y).length) (he : ∀ x y s t, d x y → (f x s).2 = 0 → (f y t).2 = 0 → c x = c y → e x y) : Cod d e f where
  up x s := by rw [hb]; exact List.prefix_append _ _
  why := hw
  inj x y s t Z hd hs h1 h2 w1 w2 := by
    have h3 := pre_same h1 h2 (by rw [hb, hb, List.length_append, List.length_append, hs, hl x y hd])
    refine ⟨he x y s t hd w1 w2 ?_, h3⟩
    rw [hb, hb, hs] at h3
    exact List.append_cancel_left h3
theorem field_zero {why : Int} {b : Bool} (h : fieldF why b = 0) : why = 0 ∧ b = true := by
  unfold fieldF at h
  split at h
  · exact ⟨h, by assumption⟩
  · omega
theorem ask_zero {why : Int} {b : Bool} {n : Int} (hn : n ≠ 0) (h : askF why b n = 0) : why = 0 ∧ b = true := by
  unfold askF at h
  split at h
  · exact absurd h hn
  · rename_i h'
    subst h
    refine ⟨rfl, ?_⟩
    cases b
    · exact absurd ⟨rfl, by decide⟩ h'
    · rfl
theorem fit_range {lo hi n : Int} (h : fitB lo hi n = true) : lo ≤ n ∧ n ≤ hi := by
  unfold fitB at h
  simpa using h
theorem none_range {n : Int} (h : noneB n = true) : -1 ≤ n ∧ n < 65535 := by
  unfold noneB at h
  simpa using h
/-- anything -/
abbrev any {γ : Type} : γ → γ → Prop := fun _ _ => True
theorem byte_cod : Cod any Eq byteS := Cod.fix (fun k => Pl.le 1 (k % 256).toNat) (fun _ _ => rfl) (fun x s h => (field_zero h).1) (fun _ _ _ => by rw [Pl.le_length, Pl.le_length]) (fun x y s t _ w1 w2 h => by
  have a := fit_range (field_zero w1).2
  have b := fit_range (field_zero w2).2
  have := le_inj 1 _ _ (by omega) (by omega) h
  omega)
theorem half_cod : Cod any Eq halfS := Cod.fix (fun k => Pl.le 2 (k % 65536).toNat) (fun _ _ => rfl) (fun x s h => (field_zero h).1) (fun _ _ _ => by rw [Pl.le_length, Pl.le_length]) (fun x y s t _ w1 w2 h => by
  have a := fit_range (field_zero w1).2
  have b := fit_range (field_zero w2).2
  have := le_inj 2 _ _ (by omega) (by omega) h
  omega)
theorem none_cod : Cod any Eq noneS := Cod.fix (fun k => Pl.le 2 (k % 65536).toNat) (fun _ _ => rfl) (fun x s h => (field_zero h).1) (fun _ _ _ => by rw [Pl.le_length, Pl.le_length]) (fun x y s t _ w1 w2 h => by
  have a := none_range (field_zero w1).2
  have b := none_range (field_zero w2).2
  have := le_inj 2 _ _ (by omega) (by omega) h
  omega)
theorem word_cod : Cod any Eq wordS := Cod.fix (fun k => Pl.le 4 (k % 4294967296).toNat) (fun _ _ => rfl) (fun x s h => (field_zero h).1) (fun _ _ _ => by rw [Pl.le_length, Pl.le_length]) (fun x y s t _ w1 w2 h => by
  have a := fit_range (field_zero w1).2
  have b := fit_range (field_zero w2).2
  have := le_inj 4 _ _ (by omega) (by omega) h
  omega)
theorem long_cod : Cod (fun x y => x ≤ 18446744073709551615 ∧ y ≤ 18446744073709551615) Eq longS := Cod.fix (fun k => Pl.le 8 k) (fun _ _ => rfl) (fun x s h => h) (fun _ _ _ => by rw [Pl.le_length, Pl.le_length]) (fun x y s t d w1 w2 h => le_inj 8 _ _ (by omega) (by omega) h)
theorem flag_cod : Cod any Eq flagS := Cod.weak (byte_cod.pre (fun b : Bool => if b = true then 1 else 0)) (fun _ _ h => trivial) (fun x y _ h => by
  revert h
  cases x <;> cases y <;> decide)
theorem zeros_cod {γ : Type} (c : Nat) : Cod (γ := γ) any any (fun _ => zerosS c) := Cod.fix (fun _ => List.replicate c 0) (fun _ _ => rfl) (fun x s h => h) (fun _ _ _ => rfl) (fun _ _ _ _ _ _ _ _ => trivial)
theorem field_cod {γ : Type} (b : γ → Bool) : Cod any (fun x y => b x = true ∧ b y = true) (fun x => fieldS (b x)) := Cod.fix (fun _ => []) (fun x s => by simp [fieldS]) (fun x s h => (field_zero h).1) (fun _ _ _ => rfl) (fun x y s t _ w1 w2 _ => ⟨(field_zero w1).2, (field_zero w2).2⟩)
theorem ask_cod {γ : Type} (b : γ → Bool) {n : Int} (hn : n ≠ 0) : Cod any (fun x y => b x = true ∧ b y = true) (fun x => askS (b x) n) := Cod.fix (fun _ => []) (fun x s => by simp [askS]) (fun x s h => (ask_zero hn h).1) (fun _ _ _ => rfl) (fun x y s t _ w1 w2 _ => ⟨(ask_zero hn w1).2, (ask_zero hn w2).2⟩)
/-- zeros up to a multiple: their number is of what is there -/
theorem padz_cod {γ : Type} (g : Nat → Nat) : Cod (γ := γ) any any (fun _ s => zerosS (g s.1.length - s.1.length) s) where
  up x s := List.prefix_append _ _
  why x s h := h
  inj x y s t Z _ hs h1 h2 w1 w2 := by
    refine ⟨trivial, ?_⟩
    show s.1 ++ _ = t.1 ++ _
    rw [hs]
theorem pad_cod {γ : Type} (al : Nat) : Cod (γ := γ) any any (fun _ => padS al) := padz_cod (fun n => upN n al)
/-- two rows, member by member -/
inductive Two {α : Type} (e : α → α → Prop) : List α → List α → Prop
  | nil : Two e [] []
  | cons {x y : α} {xs ys : List α} : e x y → Two e xs ys → Two e (x :: xs) (y :: ys)
/-- a row, one behind the other: as many as there are -/
theorem each_cod {α : Type} {ok : α → Prop} {e : α → α → Prop} {f : α → S → S} (hf : Cod (fun x y => ok x ∧ ok y) e f) : Cod (fun xs ys => xs.length = ys.length ∧ (∀ x ∈ xs, ok x) ∧ ∀ y ∈ ys, ok y) (fun xs ys => Two e xs ys) (eachS f) where
  up xs := by
    induction xs with
    | nil => intro s; exact List.prefix_refl _
    | cons x xs ih => intro s; exact (hf.up x s).trans (ih _)
  why xs := by
    induction xs with
    | nil => intro s h; exact h
    | cons x xs ih => intro s h; exact hf.why x s (ih _ h)
  inj xs := by
    have up : ∀ (xs : List α) s, s.1 <+: (eachS f xs s).1 := fun xs => by
      induction xs with
      | nil => intro s; exact List.prefix_refl _
      | cons x xs ih => intro s; exact (hf.up x s).trans (ih _)
    have why : ∀ (xs : List α) s, (eachS f xs s).2 = 0 → s.2 = 0 := fun xs => by
      induction xs with
      | nil => intro s h; exact h
      | cons x xs ih => intro s h; exact hf.why x s (ih _ h)
    induction xs with
    | nil =>
      intro ys s t Z hd hs h1 h2 w1 w2
      cases ys with
      | nil => exact ⟨.nil, hs⟩
      | cons y ys => have := hd.1; simp at this
    | cons x xs ih =>
      intro ys s t Z hd hs h1 h2 w1 w2
      cases ys with
      | nil => have := hd.1; simp at this
      | cons y ys =>
        obtain ⟨hl, hx, hy⟩ := hd
        obtain ⟨a, b⟩ := hf.inj x y s t Z ⟨hx x (by simp), hy y (by simp)⟩ hs ((up xs _).trans h1) ((up ys _).trans h2) (why xs _ w1) (why ys _ w2)
        obtain ⟨a', b'⟩ := ih ys _ _ Z ⟨by simpa using hl, fun z hz => hx z (by simp [hz]), fun z hz => hy z (by simp [hz])⟩ b h1 h2 w1 w2
        exact ⟨.cons a a', b'⟩
theorem forall_eq {α : Type} : ∀ {xs ys : List α}, Two Eq xs ys → xs = ys
  | [], [], .nil => rfl
  | x :: xs, y :: ys, .cons h t => by rw [h, forall_eq t]
theorem each_eq {α : Type} {ok : α → Prop} {f : α → S → S} (hf : Cod (fun x y => ok x ∧ ok y) Eq f) : Cod (fun xs ys => xs.length = ys.length ∧ (∀ x ∈ xs, ok x) ∧ ∀ y ∈ ys, ok y) Eq (eachS f) :=
  (each_cod hf).weak (fun _ _ h => h) (fun _ _ _ h => forall_eq h)
theorem many_cod : Cod any Eq manyS :=
  ((half_cod.pre (fun n : Nat => (n : Int))).comp ((zeros_cod 6).weak (fun _ _ _ => trivial) (fun _ _ _ h => h))).weak (fun _ _ _ => trivial) (fun x y _ h => by have := h.1; omega)
theorem range_cod : Cod (fun x y => rgOk x ∧ rgOk y) Eq rangeS :=
  (((long_cod.pre (fun r : Rg => r.1)).weak (d' := fun x y => rgOk x ∧ rgOk y) (fun x y h => ⟨h.1.1, h.2.1⟩) (fun _ _ _ h => h)).comp ((long_cod.pre (fun r : Rg => r.2)).weak (fun x y h => ⟨h.1.1.2, h.1.2.2⟩) (fun _ _ _ h => h))).weak (fun _ _ h => h) (fun x y _ h => Prod.ext h.1 h.2)
theorem Cod.then {γ : Type} {d e e' : γ → γ → Prop} {f g : γ → S → S} (hf : Cod d e f) (hg : Cod any e' g) : Cod d (fun x y => e x y ∧ e' x y) (fun x s => g x (f x s)) := hf.comp (hg.weak (fun _ _ _ => trivial) (fun _ _ _ h => h))
theorem ten_cod : Cod any Eq tenS :=
  ((((((byte_cod.pre (fun x : Tn => x.cpu)).then (flag_cod.pre (fun x : Tn => x.st))).then (byte_cod.pre (fun x : Tn => x.rule))).then (byte_cod.pre (fun x : Tn => x.vec))).then (none_cod.pre (fun x : Tn => x.to))).then (none_cod.pre (fun x : Tn => x.root))).weak (fun _ _ _ => trivial) (fun x y _ h => by
    obtain ⟨⟨⟨⟨⟨h1, h2⟩, h3⟩, h4⟩, h5⟩, h6⟩ := h
    cases x
    cases y
    simp at h1 h2 h3 h4 h5 h6
    simp [h1, h2, h3, h4, h5, h6])
theorem port_cod : Cod any Eq portS := (none_cod.then (zeros_cod 6)).weak (fun _ _ _ => trivial) (fun x y _ h => h.1)
theorem ch_cod : Cod any Eq chS :=
  ((((((field_cod (fun x : Lk => !x.msk)).then (none_cod.pre (fun x : Lk => x.fr))).then (none_cod.pre (fun x : Lk => x.to))).then (byte_cod.pre (fun x : Lk => x.eff))).then (byte_cod.pre (fun x : Lk => x.vec))).then (zeros_cod 2)).weak (fun _ _ _ => trivial) (fun x y _ h => by
    obtain ⟨⟨⟨⟨⟨⟨h0, h0'⟩, h1⟩, h2⟩, h3⟩, h4⟩, _⟩ := h
    cases x
    cases y
    simp at h0 h0' h1 h2 h3 h4
    simp [h0, h0', h1, h2, h3, h4])
theorem iq_cod : Cod any Eq iqS :=
  ((((((field_cod (fun x : Lk => decide (x.eff = 1))).then (none_cod.pre (fun x : Lk => x.fr))).then (none_cod.pre (fun x : Lk => x.to))).then (byte_cod.pre (fun x : Lk => x.vec))).then (flag_cod.pre (fun x : Lk => x.msk))).then (zeros_cod 2)).weak (fun _ _ _ => trivial) (fun x y _ h => by
    obtain ⟨⟨⟨⟨⟨⟨h0, h0'⟩, h1⟩, h2⟩, h3⟩, h4⟩, _⟩ := h
    cases x
    cases y
    simp at h0 h0' h1 h2 h3 h4
    simp [h0, h0', h1, h2, h3, h4])
theorem st_cod : Cod any Eq stS :=
  (((none_cod.pre (fun x : Int × Int => x.1)).then (zeros_cod 2)).then (word_cod.pre (fun x : Int × Int => x.2))).weak (fun _ _ _ => trivial) (fun x y _ h => Prod.ext h.1.1 h.2)
theorem bts_inj {a b : ByteArray} (h : bts a = bts b) : a = b := by
  have h2 : (bts a).map UInt8.ofNat = (bts b).map UInt8.ofNat := by rw [h]
  have k : ∀ t : ByteArray, (bts t).map UInt8.ofNat = t.data.toList := fun t => by
    rw [bts, List.map_map]
    have : UInt8.ofNat ∘ UInt8.toNat = id := funext fun x => by simp
    rw [this, List.map_id]
  rw [k, k] at h2
  cases a
  cases b
  simp at h2
  rw [h2]
theorem bytes_cod : Cod (fun a b : ByteArray => a.size = b.size) Eq (fun t => bytesS (bts t)) := Cod.fix bts (fun _ _ => rfl) (fun _ _ h => h) (fun x y h => by rw [bts_len, bts_len, h]) (fun x y s t _ _ _ h => bts_inj h)
theorem text_cod : Cod any Eq textS :=
  ((((ask_cod (fun t : ByteArray => decide (t.size ≤ 1048576)) (n := 3) (by decide)).then (word_cod.pre (fun t : ByteArray => (t.size : Int)))).comp (bytes_cod.weak (fun x y h => by have := h.2.2; omega) (fun _ _ _ h => h))).then (pad_cod 8)).weak (fun _ _ _ => trivial) (fun x y _ h => h.1.2)
theorem gd_cod : Cod (fun x y => gdOk x ∧ gdOk y) Eq gdS :=
  ((((((long_cod.pre (fun x : Gd => x.ad)).weak (d' := fun x y => gdOk x ∧ gdOk y) (fun x y h => ⟨h.1.1, h.2.1⟩) (fun _ _ _ h => h)).comp ((long_cod.pre (fun x : Gd => x.sz)).weak (fun x y h => ⟨h.1.1.2.1, h.1.2.2.1⟩) (fun _ _ _ h => h))).then (byte_cod.pre (fun x : Gd => (x.fill : Int)))).then (zeros_cod 3)).then (text_cod.pre (fun x : Gd => x.txt))).weak (fun _ _ h => h) (fun x y _ h => by
    obtain ⟨⟨⟨⟨h1, h2⟩, h3⟩, _⟩, h4⟩ := h
    have h3' : x.fill = y.fill := by omega
    cases x
    cases y
    simp at h1 h2 h3' h4
    simp [h1, h2, h3', h4])
/-- a number, and so many -/
theorem rowc_cod {γ α : Type} {ok : α → Prop} {f : α → S → S} {d : γ → γ → Prop} (hf : Cod (fun x y => ok x ∧ ok y) Eq f) (p : γ → List α) (hd : ∀ x y, d x y → (∀ z ∈ p x, ok z) ∧ ∀ z ∈ p y, ok z) : Cod d (fun x y => p x = p y) (fun x s => eachS f (p x) (manyS (p x).length s)) :=
  (((many_cod.pre (fun x : γ => (p x).length)).weak (d' := d) (fun _ _ _ => trivial) (fun _ _ _ h => h)).comp (((each_eq hf).pre p).weak (fun x y h => ⟨h.2, hd x y h.1⟩) (fun _ _ _ h => h))).weak (fun _ _ h => h) (fun _ _ _ h => h.2)
theorem Cod.ok {γ : Type} {e : γ → γ → Prop} {f : γ → S → S} (h : Cod any e f) : Cod (fun x y => (fun _ => True) x ∧ (fun _ => True) y) e f := h.weak (fun _ _ _ => trivial) (fun _ _ _ h => h)
theorem lane_cod : Cod any Eq laneS := rowc_cod (d := any) (γ := List (Int × Int)) st_cod.ok id (fun _ _ _ => ⟨fun _ _ => trivial, fun _ _ => trivial⟩)
theorem plan_cod (n : Nat) : Cod any Eq (planS n) :=
  ((((field_cod (fun p : Sc => decide (p.lanes.length = n))).then (word_cod.pre (fun p : Sc => p.maj))).then (zeros_cod 4)).comp (((each_eq lane_cod.ok).pre (fun p : Sc => p.lanes)).weak (fun x y h => ⟨by
    have h1 := h.2.1.1.1
    have h2 := h.2.1.1.2
    simp at h1 h2
    omega, fun _ _ => trivial, fun _ _ => trivial⟩) (fun _ _ _ h => h))).weak (fun _ _ _ => trivial) (fun x y _ h => sc_eq h.1.1.2 h.2)
theorem tb_inj (f g : Nat → Nat) : ∀ k, (∀ i, i < k → f i ≤ 18446744073709551615) → (∀ i, i < k → g i ≤ 18446744073709551615) → tb f k = tb g k → ∀ i, i < k → f i = g i
  | 0, _, _, _, i, hi => absurd hi (Nat.not_lt_zero _)
  | k + 1, hf, hg, h, i, hi => by
    rw [tb, tb] at h
    have hl : (tb f k).length = (tb g k).length := by rw [tb_eq, tb_eq, tbN_len, tbN_len]
    obtain ⟨h1, h2⟩ := List.append_inj h hl
    by_cases hk : i = k
    · subst hk
      exact le_inj 8 _ _ (by have := hf i (by omega); omega) (by have := hg i (by omega); omega) h2
    · exact tb_inj f g k (fun i hi => hf i (by omega)) (fun i hi => hg i (by omega)) h1 i (by omega)
theorem tab_cod : Cod (fun x y => tbOk x ∧ tbOk y) (fun x y => tf x = tf y) tabS := Cod.fix (fun f => tb f 512) (fun _ _ => rfl) (fun _ _ h => h) (fun x y _ => by rw [tb_eq, tb_eq, tbN_len, tbN_len]) (fun x y s t d _ _ h => funext fun j => tb_inj x y 512 d.1 d.2 h j.1 j.2)
theorem two_map {α β : Type} {f : α → β} : ∀ {xs ys : List α}, Two (fun x y => f x = f y) xs ys → xs.map f = ys.map f
  | [], [], .nil => rfl
  | x :: xs, y :: ys, .cons h t => by rw [List.map_cons, List.map_cons, h, two_map t]
/-- the numbers of an image are of their types -/
structure ImK (I : Im) : Prop where
  base : I.base ≤ 18446744073709551615
  rams : ∀ x ∈ I.rams, rgOk x
  devs : ∀ x ∈ I.devs, rgOk x
  regs : ∀ x ∈ I.regs, gdOk x
  tabs : ∀ x ∈ I.tabs, tbOk x
abbrev two (I J : Im) : Prop := ImK I ∧ ImK J
theorem Cod.thenD {γ : Type} {d e e' : γ → γ → Prop} {f g : γ → S → S} (hf : Cod d e f) (hg : Cod d e' g) : Cod d (fun x y => e x y ∧ e' x y) (fun x s => g x (f x s)) := hf.comp (hg.weak (fun _ _ h => h.1) (fun _ _ _ h => h))
theorem bus_cod : Cod two (fun I J => I.rams = J.rams ∧ I.devs = J.devs) busS :=
  ((((((half_cod.pre (fun I : Im => (I.rams.length : Int))).then (half_cod.pre (fun I : Im => (I.devs.length : Int)))).then (zeros_cod 4)).weak (d' := two) (fun _ _ _ => trivial) (fun _ _ _ h => h)).comp (((each_eq range_cod).pre (fun I : Im => I.rams)).weak (fun x y h => ⟨by have := h.2.1.1; omega, h.1.1.rams, h.1.2.rams⟩) (fun _ _ _ h => h))).comp (((each_eq range_cod).pre (fun I : Im => I.devs)).weak (fun x y h => ⟨by have := h.2.1.1.2; omega, h.1.1.devs, h.1.2.devs⟩) (fun _ _ _ h => h))).weak (fun _ _ h => h) (fun _ _ _ h => ⟨h.1.2, h.2⟩)
theorem subs_cod : Cod two (fun I J => I.subs = J.subs) subsS := rowc_cod ten_cod.ok (fun I : Im => I.subs) (fun _ _ _ => ⟨fun _ _ => trivial, fun _ _ => trivial⟩)
theorem ports_cod : Cod two (fun I J => I.ports = J.ports) portsS := (((field_cod (fun I : Im => decide (I.ports.length = I.devs.length))).weak (d' := two) (fun _ _ _ => trivial) (fun _ _ _ h => h)).thenD (rowc_cod port_cod.ok (fun I : Im => I.ports) (fun _ _ _ => ⟨fun _ _ => trivial, fun _ _ => trivial⟩))).weak (fun _ _ h => h) (fun _ _ _ h => h.2)
theorem regs_cod : Cod two (fun I J => I.regs = J.regs) regsS := rowc_cod gd_cod (fun I : Im => I.regs) (fun _ _ h => ⟨h.1.regs, h.2.regs⟩)
theorem chs_cod : Cod two (fun I J => I.chs = J.chs) chsS := rowc_cod ch_cod.ok (fun I : Im => I.chs) (fun _ _ _ => ⟨fun _ _ => trivial, fun _ _ => trivial⟩)
theorem irqs_cod : Cod two (fun I J => I.irqs = J.irqs) irqsS := rowc_cod iq_cod.ok (fun I : Im => I.irqs) (fun _ _ _ => ⟨fun _ _ => trivial, fun _ _ => trivial⟩)
theorem pls_cod : Cod (fun I J => I.plans.length = J.plans.length ∧ lanesN I = lanesN J) (fun I J => I.plans = J.plans) (fun I => eachS (planS (lanesN I)) I.plans) where
  up I s := (each_eq (plan_cod (lanesN I)).ok).up I.plans s
  why I s := (each_eq (plan_cod (lanesN I)).ok).why I.plans s
  inj I J s t Z h hs h1 h2 w1 w2 := by
    rw [← h.2] at h2 w2 ⊢
    exact (each_eq (plan_cod (lanesN I)).ok).inj I.plans J.plans s t Z ⟨h.1, fun _ _ => trivial, fun _ _ => trivial⟩ hs h1 h2 w1 w2
theorem plans_cod : Cod two (fun I J => I.master = J.master ∧ I.start = J.start ∧ I.plans = J.plans) plansS :=
  ((((((half_cod.pre (fun I : Im => (I.plans.length : Int))).then (half_cod.pre (fun I : Im => (lanesN I : Int)))).then (none_cod.pre (fun I : Im => I.master))).then (half_cod.pre (fun I : Im => I.start))).weak (d' := two) (fun _ _ _ => trivial) (fun _ _ _ h => h)).comp (pls_cod.weak (fun x y h => ⟨by have := h.2.1.1.1; omega, by have := h.2.1.1.2; omega⟩) (fun _ _ _ h => h))).weak (fun _ _ h => h) (fun _ _ _ h => ⟨h.1.1.2, h.1.2, h.2⟩)
theorem room_cod : Cod two any roomS := (((field_cod (fun I : Im => decide (I.base % 4096 = 0))).then (zeros_cod 160)).weak (d' := two) (fun _ _ _ => trivial) (fun _ _ _ h => trivial))
/-- a part, and the zeros ahead of it -/
def partS (k : Nat) (I : Im) (s : S) : S := secS I k (zerosS (begN k s.1.length - s.1.length) s)
theorem part_cod {k : Nat} {e : Im → Im → Prop} (h : Cod two e (fun I => secS I k)) : Cod two e (partS k) :=
  (((padz_cod (γ := Im) (begN k)).weak (d' := two) (fun _ _ _ => trivial) (fun _ _ _ h => h)).thenD h).weak (fun _ _ h => h) (fun _ _ _ h => h.2)
def eightS (I : Im) (s : S) : S := partS 7 I (partS 6 I (partS 5 I (partS 4 I (partS 3 I (partS 2 I (partS 1 I (partS 0 I s)))))))
theorem st_eight (I : Im) : stN I 8 = eightS I ([], 0) := rfl
theorem eight_cod : Cod two (fun I J => (((((((True ∧ I.rams = J.rams ∧ I.devs = J.devs) ∧ I.subs = J.subs) ∧ I.ports = J.ports) ∧ I.regs = J.regs) ∧ I.chs = J.chs) ∧ I.irqs = J.irqs) ∧ I.master = J.master ∧ I.start = J.start ∧ I.plans = J.plans)) eightS :=
  ((((((((part_cod (k := 0) room_cod).thenD (part_cod (k := 1) bus_cod)).thenD (part_cod (k := 2) subs_cod)).thenD (part_cod (k := 3) ports_cod)).thenD (part_cod (k := 4) regs_cod)).thenD (part_cod (k := 5) chs_cod)).thenD (part_cod (k := 6) irqs_cod)).thenD (part_cod (k := 7) plans_cod))
theorem tabs_len (xs : List (Nat → Nat)) (s : S) : (eachS tabS xs s).1.length = s.1.length + 4096 * xs.length := each_len (fun x s => tab_len x s) xs s
/-- what lies behind the header says all but the base -/
theorem all_inj {I J : Im} (hI : ImK I) (hJ : ImK J) (h : (stN I 9).1 = (stN J 9).1) (w1 : (stN I 9).2 = 0) (w2 : (stN J 9).2 = 0) : (I.rams = J.rams ∧ I.devs = J.devs) ∧ I.chs = J.chs ∧ I.irqs = J.irqs ∧ I.plans = J.plans ∧ I.subs = J.subs ∧ I.ports = J.ports ∧ I.regs = J.regs ∧ I.tabs.map tf = J.tabs.map tf ∧ I.master = J.master ∧ I.start = J.start := by
  have e9 : ∀ I : Im, stN I 9 = eachS tabS I.tabs (zerosS (begN 8 (stN I 8).1.length - (stN I 8).1.length) (stN I 8)) := fun _ => rfl
  have hc := each_cod tab_cod
  rw [e9 I] at h w1
  rw [e9 J] at h w2
  have u1 := hc.why _ _ w1
  have u2 := hc.why _ _ w2
  have p1 := hc.up I.tabs (zerosS (begN 8 (stN I 8).1.length - (stN I 8).1.length) (stN I 8))
  have p2 := hc.up J.tabs (zerosS (begN 8 (stN J 8).1.length - (stN J 8).1.length) (stN J 8))
  rw [← h] at p2
  have q1 := (List.prefix_append (stN I 8).1 (List.replicate (begN 8 (stN I 8).1.length - (stN I 8).1.length) 0)).trans p1
  have q2 := (List.prefix_append (stN J 8).1 (List.replicate (begN 8 (stN J 8).1.length - (stN J 8).1.length) 0)).trans p2
  have v1 : (eightS I ([], 0)).2 = 0 := by rw [← st_eight]; exact u1
  have v2 : (eightS J ([], 0)).2 = 0 := by rw [← st_eight]; exact u2
  rw [st_eight I] at q1
  rw [st_eight J] at q2
  obtain ⟨⟨⟨⟨⟨⟨⟨⟨_, hb⟩, hs⟩, hp⟩, hr⟩, hch⟩, hi⟩, hm, hst, hpl⟩, e8⟩ := eight_cod.inj I J ([], 0) ([], 0) _ ⟨hI, hJ⟩ rfl q1 q2 v1 v2
  rw [← st_eight, ← st_eight] at e8
  have ez : (zerosS (begN 8 (stN I 8).1.length - (stN I 8).1.length) (stN I 8)).1 = (zerosS (begN 8 (stN J 8).1.length - (stN J 8).1.length) (stN J 8)).1 := by
    show _ ++ _ = _ ++ _
    rw [e8]
  have hl : I.tabs.length = J.tabs.length := by
    have := congrArg List.length h
    rw [tabs_len, tabs_len, ez] at this
    omega
  have ht := (hc.inj I.tabs J.tabs _ _ _ ⟨hl, hI.tabs, hJ.tabs⟩ ez (List.prefix_refl _) (by rw [h]; exact List.prefix_refl _) w1 w2).1
  exact ⟨hb, hch, hi, hpl, hs, hp, hr, two_map ht, hm, hst⟩
theorem st_one (I : Im) : (stN I 1).1 = List.replicate 160 0 := by
  have : begN 0 0 = 0 := by decide
  show (secS I 0 (zerosS (begN 0 0 - 0) ([], 0))).1 = _
  rw [this]
  rfl
theorem st_up (I : Im) : ∀ j k, j ≤ k → (stN I j).1.length ≤ (stN I k).1.length := stN_mono I
theorem st_zero {I : Im} : (stN I 9).1.take 160 = List.replicate 160 0 := by
  have h : (stN I 1).1 <+: (stN I 9).1 := by
    have e9 : stN I 9 = partS 8 I (partS 7 I (partS 6 I (partS 5 I (partS 4 I (partS 3 I (partS 2 I (partS 1 I (stN I 1)))))))) := rfl
    rw [e9]
    have c8 : ∀ s : S, s.1 <+: (partS 8 I s).1 := fun s => (List.prefix_append s.1 (List.replicate (begN 8 s.1.length - s.1.length) 0)).trans ((each_cod tab_cod).up I.tabs (zerosS (begN 8 s.1.length - s.1.length) s))
    exact (((((((((part_cod (k := 1) bus_cod).up I _).trans ((part_cod (k := 2) subs_cod).up I _)).trans ((part_cod (k := 3) ports_cod).up I _)).trans ((part_cod (k := 4) regs_cod).up I _)).trans ((part_cod (k := 5) chs_cod).up I _)).trans ((part_cod (k := 6) irqs_cod).up I _)).trans ((part_cod (k := 7) plans_cod).up I _)).trans (c8 _))
  rw [st_one] at h
  obtain ⟨t, ht⟩ := h
  rw [← ht, List.take_left' (by simp)]
/-- the same bytes: alike -/
theorem enc_inj {I J : Im} (hI : ImK I) (hJ : ImK J) (w1 : (stN I 9).2 = 0) (w2 : (stN J 9).2 = 0) (h : encF I = encF J) : alike I J := by
  unfold encF at h
  obtain ⟨h1, h2⟩ := List.append_inj h (by rw [hdF_len, hdF_len])
  have hz : (stN I 9).1 = (stN J 9).1 := by
    rw [← List.take_append_drop 160 (stN I 9).1, ← List.take_append_drop 160 (stN J 9).1, st_zero, st_zero, h2]
  obtain ⟨a, b, c, d, e, f, g, k, l, m⟩ := all_inj hI hJ hz w1 w2
  refine ⟨?_, l, m, a, b, c, d, e, f, g, k⟩
  have p : ∀ (K : Im) zs, (hdP K zs 0) <+: hdF K zs := fun K zs => by
    have q : ∀ i, hdP K zs 0 <+: hdP K zs i := fun i => by
      induction i with
      | zero => exact List.prefix_refl _
      | succ i ih => exact ih.trans (List.prefix_append _ _)
    exact ((q 8).trans (List.prefix_append _ _)).trans (List.prefix_append _ _)
  have q1 := p I (stN I 9).1
  have q2 := p J (stN J 9).1
  rw [← h1] at q2
  have q3 := pre_same q1 q2 (by rw [hdP_len, hdP_len])
  rw [hdP, hdP, ← hz] at q3
  exact le_inj 8 _ _ (by have := hI.base; omega) (by have := hJ.base; omega) (List.append_cancel_left q3)
theorem tb_same (f g : Nat → Nat) : ∀ k, (∀ i, i < k → f i = g i) → tb f k = tb g k
  | 0, _ => rfl
  | k + 1, h => by rw [tb, tb, tb_same f g k (fun i hi => h i (by omega)), h k (by omega)]
theorem tabs_same : ∀ (xs ys : List (Nat → Nat)) (s : S), xs.map tf = ys.map tf → eachS tabS xs s = eachS tabS ys s
  | [], [], s, _ => rfl
  | [], y :: ys, s, h => by simp at h
  | x :: xs, [], s, h => by simp at h
  | x :: xs, y :: ys, s, h => by
    simp only [List.map_cons, List.cons.injEq] at h
    have : tabS x s = tabS y s := by
      rw [tabS, tabS, tb_same x y 512 (fun i hi => congrFun h.1 ⟨i, hi⟩)]
    rw [eachS, eachS, this]
    exact tabs_same xs ys _ h.2
theorem st_same {I J : Im} (h : alike I J) : ∀ k, stN I k = stN J k := by
  obtain ⟨h1, h2, h3, ⟨h4, h5⟩, h6, h7, h8, h9, h10, h11, h12⟩ := h
  cases I
  cases J
  simp only at h1 h2 h3 h4 h5 h6 h7 h8 h9 h10 h11 h12
  subst h1 h2 h3 h4 h5 h6 h7 h8 h9 h10 h11
  intro k
  induction k with
  | zero => rfl
  | succ k ih =>
    rw [stN, stN, ih]
    match k with
    | 0 => rfl
    | 1 => rfl
    | 2 => rfl
    | 3 => rfl
    | 4 => rfl
    | 5 => rfl
    | 6 => rfl
    | 7 => rfl
    | k + 8 => exact tabs_same _ _ _ h12
theorem enc_same {I J : Im} (h : alike I J) : encF I = encF J := by
  have hs : stN I = stN J := funext (st_same h)
  have hf : fstN I = fstN J := funext fun k => by rw [fstN, fstN, hs]
  have hl : lenN I = lenN J := funext fun k => by rw [lenN, lenN, hs, hf]
  have hz : ∀ zs i, secZ I zs i = secZ J zs i := fun zs i => by rw [secZ, secZ, hf, hl]
  have hp : ∀ zs i, hdP I zs i = hdP J zs i := fun zs i => by
    induction i with
    | zero => rw [hdP, hdP, h.1]
    | succ i ih => rw [hdP, hdP, ih, hf, hl, hz]
  rw [encF, encF, hdF, hdF, hs, hp]
end Go.Proofs.YtinjhgimhboigaaDoor
