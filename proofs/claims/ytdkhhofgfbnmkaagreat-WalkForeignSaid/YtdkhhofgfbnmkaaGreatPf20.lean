import Derived.Test.YtdkhhofgfbnmkaaGreatPf05
/- Leaves, as a function: a state that looks and tells move on. Own work. -/
namespace Go.Proofs.YtdkhhofgfbnmkaaGreat.Lv
open Wk
/-- an entry where it stands: its address, its level, what it says, why not -/
abbrev Slt := Nat × Nat × Ent × Int
/-- how far an entry of a level reaches -/
def rch (lev : Nat) : Nat := if lev = 0 then 1073741824 else if lev = 1 then 2097152 else 4096
structure St (σ : Type) where
  s : σ
  left : Nat
  go : Bool
section
variable {σ : Type} (lk : σ → Nat → Nat → Nat → (Ent × Int) × σ) (yd : σ → Slt → σ) (ct : σ → Slt → Bool)
/-- an entry is come by: a table counts, all else is told -/
def visitS (t : St σ) (x : Slt) : St σ :=
  if x.2.2.1.2.1 then { t with left := t.left - 1, go := decide (1 < t.left) }
  else { s := yd t.s x, left := t.left - 1, go := ct t.s x && decide (1 < t.left) }
/-- the slot of an entry -/
def slotS (virt lev i : Nat) (r : Ent × Int) : Slt := (virt + i * rch lev, lev, r.1, r.2)
/-- the entry i of a table -/
def stepS (deep : Nat → Nat → Nat → St σ → St σ) (fr virt lev i : Nat) (t : St σ) : St σ :=
  if (lk t.s fr i lev).1.2 = 41 then { t with s := (lk t.s fr i lev).2 }
  else if (visitS yd ct { t with s := (lk t.s fr i lev).2 } (slotS virt lev i (lk t.s fr i lev).1)).go && (lk t.s fr i lev).1.1.2.1 then
    deep (lk t.s fr i lev).1.1.1 (virt + i * rch lev) (lev + 1) (visitS yd ct { t with s := (lk t.s fr i lev).2 } (slotS virt lev i (lk t.s fr i lev).1))
  else visitS yd ct { t with s := (lk t.s fr i lev).2 } (slotS virt lev i (lk t.s fr i lev).1)
/-- the first entries of a table -/
def tabN (deep : Nat → Nat → Nat → St σ → St σ) (fr virt lev : Nat) : Nat → St σ → St σ
  | 0, t => t
  | i + 1, t => if (tabN deep fr virt lev i t).go then stepS lk yd ct deep fr virt lev i (tabN deep fr virt lev i t) else tabN deep fr virt lev i t
def deep3 (_ _ _ : Nat) (t : St σ) : St σ := t
def deep2 (fr virt lev : Nat) (t : St σ) : St σ := tabN lk yd ct deep3 fr virt lev 512 t
def deep1 (fr virt lev : Nat) (t : St σ) : St σ := tabN lk yd ct (deep2 lk yd ct) fr virt lev 512 t
def allS (root : Nat) (t : St σ) : St σ := tabN lk yd ct (deep1 lk yd ct) root 0 0 512 t
variable {lk yd ct}
theorem tabN_go {deep : Nat → Nat → Nat → St σ → St σ} {fr virt lev i : Nat} {t : St σ} (h : (tabN lk yd ct deep fr virt lev i t).go = true) : tabN lk yd ct deep fr virt lev (i + 1) t = stepS lk yd ct deep fr virt lev i (tabN lk yd ct deep fr virt lev i t) := by
  rw [tabN, if_pos h]
theorem tabN_stop {deep : Nat → Nat → Nat → St σ → St σ} {fr virt lev i : Nat} {t : St σ} (h : (tabN lk yd ct deep fr virt lev i t).go = false) : ∀ m, tabN lk yd ct deep fr virt lev (i + m) t = tabN lk yd ct deep fr virt lev i t
  | 0 => rfl
  | m + 1 => by
    rw [← Nat.add_assoc, tabN, tabN_stop h m, if_neg (by rw [h]; decide)]
theorem tabN_end {deep : Nat → Nat → Nat → St σ → St σ} {fr virt lev i : Nat} {t : St σ} (h : (tabN lk yd ct deep fr virt lev i t).go = false) (hi : i ≤ 512) : tabN lk yd ct deep fr virt lev 512 t = tabN lk yd ct deep fr virt lev i t := by
  have := tabN_stop h (512 - i)
  rwa [show i + (512 - i) = 512 from by omega] at this
/-- how many looks -/
theorem cnt_visit {cnt : σ → Nat} (hy : ∀ s x, cnt (yd s x) ≤ cnt s) (t : St σ) (x : Slt) : cnt (visitS yd ct t x).s ≤ cnt t.s := by
  unfold visitS
  split
  · exact Nat.le_refl _
  · exact hy _ _
theorem cnt_step {cnt : σ → Nat} (hl : ∀ s a b c, cnt (lk s a b c).2 ≤ cnt s + 1) (hy : ∀ s x, cnt (yd s x) ≤ cnt s) {deep : Nat → Nat → Nat → St σ → St σ} {q : Nat} (hd : ∀ a b c t, cnt (deep a b c t).s ≤ cnt t.s + q) (fr virt lev i : Nat) (t : St σ) : cnt (stepS lk yd ct deep fr virt lev i t).s ≤ cnt t.s + (q + 1) := by
  have h1 := hl t.s fr i lev
  have h2 := cnt_visit (ct := ct) hy { t with s := (lk t.s fr i lev).2 } (slotS virt lev i (lk t.s fr i lev).1)
  have h2' : cnt (visitS yd ct { t with s := (lk t.s fr i lev).2 } (slotS virt lev i (lk t.s fr i lev).1)).s ≤ cnt (lk t.s fr i lev).2 := h2
  unfold stepS
  split
  · show cnt (lk t.s fr i lev).2 ≤ _; omega
  · split
    · have := hd (lk t.s fr i lev).1.1.1 (virt + i * rch lev) (lev + 1) (visitS yd ct { t with s := (lk t.s fr i lev).2 } (slotS virt lev i (lk t.s fr i lev).1))
      omega
    · omega
theorem cnt_tab {cnt : σ → Nat} (hl : ∀ s a b c, cnt (lk s a b c).2 ≤ cnt s + 1) (hy : ∀ s x, cnt (yd s x) ≤ cnt s) {deep : Nat → Nat → Nat → St σ → St σ} {q : Nat} (hd : ∀ a b c t, cnt (deep a b c t).s ≤ cnt t.s + q) (fr virt lev : Nat) (t : St σ) : ∀ i, cnt (tabN lk yd ct deep fr virt lev i t).s ≤ cnt t.s + i * (q + 1)
  | 0 => by simp [tabN]
  | i + 1 => by
    have := cnt_tab hl hy hd fr virt lev t i
    rw [tabN, Nat.succ_mul]
    split
    · have := cnt_step (ct := ct) hl hy hd fr virt lev i (tabN lk yd ct deep fr virt lev i t)
      omega
    · omega
theorem cnt3 {cnt : σ → Nat} (a b c : Nat) (t : St σ) : cnt (deep3 a b c t).s ≤ cnt t.s + 0 := Nat.le_refl _
theorem cnt2 {cnt : σ → Nat} (hl : ∀ s a b c, cnt (lk s a b c).2 ≤ cnt s + 1) (hy : ∀ s x, cnt (yd s x) ≤ cnt s) (a b c : Nat) (t : St σ) : cnt (deep2 lk yd ct a b c t).s ≤ cnt t.s + 512 := cnt_tab (ct := ct) hl hy cnt3 a b c t 512
theorem cnt1 {cnt : σ → Nat} (hl : ∀ s a b c, cnt (lk s a b c).2 ≤ cnt s + 1) (hy : ∀ s x, cnt (yd s x) ≤ cnt s) (a b c : Nat) (t : St σ) : cnt (deep1 lk yd ct a b c t).s ≤ cnt t.s + 262656 := cnt_tab (ct := ct) hl hy (cnt2 (ct := ct) hl hy) a b c t 512
end
end Go.Proofs.YtdkhhofgfbnmkaaGreat.Lv
