import Derived.Test.YtnifefmfhjfbnaaGreatDoorPk44
import Derived.Test.YtnifefmfhjfbnaaGreatDoorPk08
/- ONE BURST IS TOLD: plain mathematics of the check sum. -/
namespace Go.Proofs.YtnifefmfhjfbnaaGreatDoor
namespace Pl
theorem mul_pow_xor (k a b : Nat) : 2 ^ k * (a ^^^ b) = 2 ^ k * a ^^^ 2 ^ k * b := by
 apply Nat.eq_of_testBit_eq
 intro i
 rw [Nat.testBit_xor, Nat.testBit_two_pow_mul, Nat.testBit_two_pow_mul, Nat.testBit_two_pow_mul, Nat.testBit_xor]
 cases decide (i ≥ k) <;> simp
theorem low_xor (k z m : Nat) (hz : z < 2 ^ k) : z + 2 ^ k * m = z ^^^ 2 ^ k * m := by
 apply Nat.eq_of_testBit_eq
 intro i
 rw [Nat.testBit_xor, Nat.testBit_two_pow_mul, Nat.add_comm, Nat.testBit_two_pow_mul_add m hz]
 by_cases h : i < k
 ·simp [h, Nat.not_le.2 h]
 ·have hi : k ≤ i := Nat.not_lt.1 h
  rw [if_neg h, Nat.testBit_lt_two_pow (Nat.lt_of_lt_of_le hz (Nat.pow_le_pow_right (by decide) hi))]
  simp [hi]
theorem bsteps_add (a b r : Nat) : bsteps (a + b) r = bsteps b (bsteps a r) := by
 induction b with
 | zero => rfl
 | succ b ih => show bst (bsteps (a + b) r) = bst (bsteps b (bsteps a r)); rw [ih]
theorem bsteps_pow (k q : Nat) : bsteps k (2 ^ k * q) = q := by
 induction k generalizing q with
 | zero => simp [bsteps]
 | succ k ih => show bst (bsteps k (2 ^ (k + 1) * q)) = q; rw [Nat.pow_succ, Nat.mul_assoc, ih, bst_two]
/-- the register behind some bytes is their number, bit by bit -/
theorem fold_num (zs : List Nat) (r : Nat) (hz : ∀ z ∈ zs, z < 256) : zs.foldl stepB r = bsteps (8 * zs.length) (r ^^^ num zs.length zs) := by
 induction zs generalizing r with
 | nil => simp [num, acc, bsteps]
 | cons z zs ih =>
  have hz0 : z < 2 ^ 8 := hz z (by simp)
  have e : num (z :: zs).length (z :: zs) = z ^^^ 2 ^ 8 * num zs.length zs := by
   rw [← low_xor 8 _ _ hz0]
   show z + 256 * acc (z :: zs) (0 + 1) zs.length = _
   rw [acc_cons]
   rfl
  rw [List.foldl_cons, ih _ (fun y hy => hz y (by simp [hy])), step_eight, e, List.length_cons, Nat.mul_succ, Nat.add_comm, bsteps_add]
  rw [← Nat.xor_assoc r z, bsteps_xor 8 (r ^^^ z), bsteps_pow]
theorem num_split (n m : Nat) (zs : List Nat) (hz : ∀ z ∈ zs, z < 256) : num (n + m) zs = num n zs ^^^ 2 ^ (8 * n) * num m (zs.drop n) := by
 have h : ∀ n k, acc zs k (n + m) = acc zs k n + 256 ^ n * acc zs (k + n) m := by
  intro n
  induction n with
  | zero => intro k; simp [acc]
  | succ n ih =>
   intro k
   rw [show n + 1 + m = (n + m) + 1 from by omega]
   show zs.getD k 0 + 256 * acc zs (k + 1) (n + m) = zs.getD k 0 + 256 * acc zs (k + 1) n + 256 ^ (n + 1) * acc zs (k + (n + 1)) m
   rw [ih, Nat.mul_add, ← Nat.mul_assoc, ← Nat.add_assoc, show k + 1 + n = k + (n + 1) from by omega, Nat.pow_succ, Nat.mul_comm 256 (256 ^ n)]
 have hd : ∀ m k n, acc (zs.drop n) k m = acc zs (n + k) m := by
  intro m
  induction m with
  | zero => intro k n; rfl
  | succ m ih =>
   intro k n
   show (zs.drop n).getD k 0 + 256 * acc (zs.drop n) (k + 1) m = zs.getD (n + k) 0 + 256 * acc zs (n + k + 1) m
   rw [ih, Nat.add_assoc]
   simp [List.getD_eq_getElem?_getD]
 have e : (256 : Nat) ^ n = 2 ^ (8 * n) := by rw [Nat.pow_mul]
 have hlt : num n zs < 2 ^ (8 * n) := by rw [← e]; exact acc_lt hz 0 n
 rw [← low_xor _ _ _ hlt]
 show acc zs 0 (n + m) = acc zs 0 n + 2 ^ (8 * n) * acc (zs.drop n) 0 m
 rw [h n 0, hd m 0 n, e]
 simp
theorem num_take (n : Nat) (zs : List Nat) : num n (zs.take n) = num n zs := by
 have h : ∀ m k, k + m ≤ n → acc (zs.take n) k m = acc zs k m := by
  intro m
  induction m with
  | zero => intro k _; rfl
  | succ m ih =>
   intro k hk
   show (zs.take n).getD k 0 + 256 * acc (zs.take n) (k + 1) m = zs.getD k 0 + 256 * acc zs (k + 1) m
   rw [ih (k + 1) (by omega)]
   simp [List.getD_eq_getElem?_getD, show k < n by omega]
 exact h n 0 (by omega)
/-- what stands behind n bytes is their check sum just if the whole comes to all ones -/
theorem seal_iff (n : Nat) (zs : List Nat) (hz : ∀ z ∈ zs, z < 256) (hn : n ≤ zs.length) : num 4 (zs.drop n) = crc (zs.take n) ↔ bsteps (8 * n) (4294967295 ^^^ num (n + 4) zs) = 4294967295 := by
 have hl : (zs.take n).length = n := by rw [List.length_take]; omega
 have h1 : (zs.take n).foldl stepB 4294967295 = bsteps (8 * n) (4294967295 ^^^ num n zs) := by
  rw [fold_num _ _ (fun z h => hz z (List.mem_of_mem_take h)), hl, num_take]
 rw [num_split n 4 zs hz, ← Nat.xor_assoc, bsteps_xor, bsteps_pow, ← h1]
 show num 4 (zs.drop n) = 4294967295 ^^^ (zs.take n).foldl stepB (4294967295 ^^^ 0) ↔ _
 rw [Nat.xor_zero]
 generalize (zs.take n).foldl stepB 4294967295 = s
 generalize num 4 (zs.drop n) = x
 constructor
 ·intro h
  rw [h, Nat.xor_comm 4294967295, ← Nat.xor_assoc, Nat.xor_self, Nat.zero_xor]
 ·intro h
  rw [← h, Nat.xor_comm s x, Nat.xor_assoc, Nat.xor_self, Nat.xor_zero]
theorem bst_pos {x : Nat} (h : 0 < x) (hx : x < 4294967296) : 0 < bst x ∧ bst x < 4294967296 := by
 refine ⟨?_, bst_lt hx⟩
 unfold bst
 split
 ·rename_i ho
  rcases Nat.eq_zero_or_pos (x / 2 ^^^ 2197175160) with e | e
  ·exfalso
   have e2 : x / 2 = 2197175160 := by
    have := congrArg (fun y => y ^^^ 2197175160) e
    simpa [Nat.xor_assoc] using this
   omega
  ·exact e
 ·omega
theorem bsteps_pos (k : Nat) {x : Nat} (h : 0 < x) (hx : x < 4294967296) : 0 < bsteps k x ∧ bsteps k x < 4294967296 := by
 induction k with
 | zero => exact ⟨h, hx⟩
 | succ k ih => exact bst_pos ih.1 ih.2
theorem burst_pos (m b x : Nat) (h : 0 < x) (hx : x < 4294967296) : 0 < bsteps m (2 ^ b * x) := by
 by_cases hb : m ≤ b
 ·rw [show b = m + (b - m) from by omega, Nat.pow_add, Nat.mul_assoc, bsteps_pow]
  exact Nat.mul_pos (Nat.pow_pos (by decide)) h
 ·rw [show m = b + (m - b) from by omega, bsteps_add, bsteps_pow]
  exact (bsteps_pos _ h hx).1
/-- P1.10 -/
theorem burst_told (n : Nat) (xs ys : List Nat) (ha : ∀ z ∈ xs, z < 256) (hb : ∀ z ∈ ys, z < 256) (hn : n ≤ xs.length) (hn' : n ≤ ys.length) (hs : num 4 (xs.drop n) = crc (xs.take n)) (b x : Nat) (h : 0 < x) (hx : x < 4294967296)
  (hd : num (n + 4) ys = num (n + 4) xs ^^^ 2 ^ b * x) : num 4 (ys.drop n) ≠ crc (ys.take n) := by
 intro e
 have e1 := (seal_iff n xs ha hn).1 hs
 have e2 := (seal_iff n ys hb hn').1 e
 rw [hd, ← Nat.xor_assoc, bsteps_xor, e1] at e2
 have e3 : bsteps (8 * n) (2 ^ b * x) = 0 := by
  have := congrArg (fun y => 4294967295 ^^^ y) e2
  simpa [← Nat.xor_assoc] using this
 have := burst_pos (8 * n) b x h hx
 omega
/-- one bit of one byte is turned -/
theorem num_flip (zs : List Nat) (q t : Nat) (hq : q < zs.length) (ht : t < 8) (hz : ∀ z ∈ zs, z < 256) : num zs.length (zs.set q (zs.getD q 0 ^^^ 2 ^ t)) = num zs.length zs ^^^ 2 ^ (8 * q + t) := by
 induction zs generalizing q with
 | nil => simp at hq
 | cons z zs ih =>
  have hz0 : z < 2 ^ 8 := hz z (by simp)
  have hc : ∀ y (ys : List Nat), y < 2 ^ 8 → num (ys.length + 1) (y :: ys) = y ^^^ 2 ^ 8 * num ys.length ys := by
   intro y ys hy
   rw [← low_xor 8 _ _ hy]
   show y + 256 * acc (y :: ys) (0 + 1) ys.length = _
   rw [acc_cons]
   rfl
  cases q with
  | zero =>
   have hy : z ^^^ 2 ^ t < 2 ^ 8 := Nat.xor_lt_two_pow hz0 (Nat.pow_lt_pow_right (by decide) ht)
   show num (zs.length + 1) ((z ^^^ 2 ^ t) :: zs) = num (zs.length + 1) (z :: zs) ^^^ 2 ^ (8 * 0 + t)
   rw [hc _ _ hy, hc _ _ hz0, Nat.mul_zero, Nat.zero_add, Nat.xor_assoc, Nat.xor_comm (2 ^ t), ← Nat.xor_assoc]
  | succ q =>
   have hq' : q < zs.length := by simpa using hq
   have e := ih q hq' (fun y hy => hz y (by simp [hy]))
   have hl : (zs.set q (zs.getD q 0 ^^^ 2 ^ t)).length = zs.length := by simp
   show num (zs.length + 1) (z :: zs.set q (zs.getD q 0 ^^^ 2 ^ t)) = num (zs.length + 1) (z :: zs) ^^^ 2 ^ (8 * (q + 1) + t)
   have hc2 := hc z (zs.set q (zs.getD q 0 ^^^ 2 ^ t)) hz0
   rw [hl] at hc2
   rw [hc2, hc _ _ hz0, e, mul_pow_xor, ← Nat.xor_assoc, show 2 ^ 8 * 2 ^ (8 * q + t) = 2 ^ (8 * (q + 1) + t) from by rw [← Nat.pow_add]; congr 1; omega]
theorem pow_xor (x k : Nat) (h : x < 2 ^ k) : x + 2 ^ k = x ^^^ 2 ^ k := by
 have := low_xor k x 1 h
 simpa using this
end Pl
end Go.Proofs.YtnifefmfhjfbnaaGreatDoor
/- Bundle: a burst is told. Plain. Own work. -/
namespace Go.Proofs.YtnifefmfhjfbnaaGreatDoor
open Bn Dc
set_option linter.unusedVariables false
set_option linter.unusedSimpArgs false
namespace Dc
theorem num_front {n : Nat} {m u : List Nat} (h : m.length = n) : Pl.num n (m ++ u) = Pl.num n m := by
 rw [← Pl.num_take n (m ++ u), List.take_left' h]
theorem hdP_pre (I : Im) (zs : List Nat) (j : Nat) : ∀ k, j ≤ k → ∃ u, hdP I zs k = hdP I zs j ++ u
 | 0, h => ⟨[], by
  obtain rfl : j = 0 := by omega
  simp⟩
 | k + 1, h => by
  by_cases e : j = k + 1
  ·subst e; exact ⟨[], by simp⟩
  ·obtain ⟨u, hu⟩ := hdP_pre I zs j k (by omega)
   exact ⟨u ++ entB (k + 1) (fstN I (k + 1)) (lenN I (k + 1)) (Pl.crc (secZ I zs (k + 1))), by rw [hdP, hu, List.append_assoc]⟩
/-- the header's sum -/
theorem enc_seal (I : Im) : Pl.num 4 ((encF I).drop 152) = Pl.crc ((encF I).take 152) := by
 have e : encF I = hdP I (stN I 9).1 8 ++ (Pl.le 4 (Pl.crc (hdP I (stN I 9).1 8)) ++ (Pl.le 4 0 ++ (stN I 9).1.drop 160)) := by
  unfold encF hdF
  simp only [List.append_assoc]
 have hl : (hdP I (stN I 9).1 8).length = 152 := hdP_len I _ 8
 rw [e, List.drop_left' hl, List.take_left' hl]
 exact Pl.num_le 4 _ _ (Nat.lt_succ_of_le (crc_lt (sm_hdP I _ 8)))
/-- the directory's words -/
theorem enc_words (I : Im) (hw : (sizeF I).2 = 0) {k : Nat} (h1 : 1 ≤ k) (h8 : k ≤ 8) : Pl.num 4 ((encF I).drop (24 + 16 * (k - 1) + 4)) = fstN I k ∧ Pl.num 4 ((encF I).drop (24 + 16 * (k - 1) + 8)) = lenN I k := by
 obtain ⟨i, rfl⟩ : ∃ i, k = i + 1 := ⟨k - 1, by omega⟩
 rw [Nat.add_sub_cancel]
 obtain ⟨u, hu⟩ := hdP_pre I (stN I 9).1 (i + 1) 8 h8
 have hN := size_why I hw
 have ha := fst_len I (i + 1) (by omega)
 have hb := stN_mono I (i + 1 + 1) 9 (by omega)
 have e : encF I = (hdP I (stN I 9).1 i ++ (Pl.le 2 (i + 1) ++ Pl.le 2 0)) ++ (Pl.le 4 (fstN I (i + 1)) ++ (Pl.le 4 (lenN I (i + 1)) ++ (Pl.le 4 (Pl.crc (secZ I (stN I 9).1 (i + 1))) ++ (u ++ (Pl.le 4 (Pl.crc (hdP I (stN I 9).1 8)) ++ (Pl.le 4 0 ++ (stN I 9).1.drop 160)))))) := by
  have h : hdP I (stN I 9).1 8 = hdP I (stN I 9).1 i ++ entB (i + 1) (fstN I (i + 1)) (lenN I (i + 1)) (Pl.crc (secZ I (stN I 9).1 (i + 1))) ++ u := hu
  have e2 : encF I = hdP I (stN I 9).1 8 ++ (Pl.le 4 (Pl.crc (hdP I (stN I 9).1 8)) ++ (Pl.le 4 0 ++ (stN I 9).1.drop 160)) := by
   unfold encF hdF
   simp only [List.append_assoc]
  obtain ⟨P, hP⟩ : ∃ P, hdP I (stN I 9).1 8 = P := ⟨_, rfl⟩
  obtain ⟨cP, hcP⟩ : ∃ c, Pl.crc P = c := ⟨_, rfl⟩
  rw [hP] at h e2 ⊢
  rw [hcP] at e2 ⊢
  rw [e2, h]
  unfold entB
  simp only [List.append_assoc]
 have hl : (hdP I (stN I 9).1 i ++ (Pl.le 2 (i + 1) ++ Pl.le 2 0)).length = 24 + 16 * i + 4 := by
  rw [List.length_append, List.length_append, hdP_len, Pl.le_length, Pl.le_length]
 have hd : (encF I).drop (24 + 16 * i + 4) = Pl.le 4 (fstN I (i + 1)) ++ (Pl.le 4 (lenN I (i + 1)) ++ (Pl.le 4 (Pl.crc (secZ I (stN I 9).1 (i + 1))) ++ (u ++ (Pl.le 4 (Pl.crc (hdP I (stN I 9).1 8)) ++ (Pl.le 4 0 ++ (stN I 9).1.drop 160))))) := by
  conv => lhs; rw [e]
  exact List.drop_left' hl
 refine ⟨?_, ?_⟩
 ·rw [hd]
  exact Pl.num_le 4 _ _ (by omega)
 ·rw [show 24 + 16 * i + 8 = 24 + 16 * i + 4 + 4 by omega, ← List.drop_drop, hd, List.drop_left' (Pl.le_length 4 _)]
  exact Pl.num_le 4 _ _ (by omega)
/-- a burst in the header -/
theorem hurt_head {I : Im} {mid m post : List Nat} {b X : Nat} (hx : encF I = mid ++ post) (hl : mid.length = 156) (hm : m.length = mid.length) (hs : ∀ z ∈ m, z < 256) (h0 : 0 < X) (hX : X < 4294967296) (hn : Pl.num mid.length m = Pl.num mid.length mid ^^^ 2 ^ b * X) : (decA (m ++ post)).why ≠ 0 := fun h => by
 have hsx := sm_enc I
 rw [hx] at hsx
 have hys : ∀ z ∈ m ++ post, z < 256 := fun z hz => (List.mem_append.1 hz).elim (hs z) (fun h => hsx z (List.mem_append_right _ h))
 obtain ⟨_, _, he, _⟩ := forth_all hys h
 have s1 := enc_seal (decA (m ++ post)).J
 have s2 := enc_seal I
 rw [he] at s1
 rw [hx] at s2
 have k : ∀ l : List Nat, l.length = 156 → Pl.num 4 ((l ++ post).drop 152) = Pl.num 4 (l.drop 152) ∧ (l ++ post).take 152 = l.take 152 := fun l hl => by
  refine ⟨?_, List.take_append_of_le_length (by omega)⟩
  rw [List.drop_append_of_le_length (by omega)]
  exact num_front (by rw [List.length_drop]; omega)
 obtain ⟨a1, a2⟩ := k m (by omega)
 obtain ⟨b1, b2⟩ := k mid hl
 rw [a1, a2] at s1
 rw [b1, b2] at s2
 rw [hl] at hn
 exact Pl.burst_told 152 mid m (fun z hz => hsx z (List.mem_append_left _ hz)) hs (by omega) (by omega) s2 b X h0 hX hn s1
/-- a burst in a section -/
theorem hurt_sec {I : Im} (hI : ImK I) (hw : (sizeF I).2 = 0) {k : Nat} (h1 : 1 ≤ k) (h8 : k ≤ 8) {pre mid m post : List Nat} {b X : Nat} (hx : encF I = pre ++ (mid ++ post)) (hp : pre.length = fstN I k) (hl : mid.length = lenN I k) (hm : m.length = mid.length) (hs : ∀ z ∈ m, z < 256) (h0 : 0 < X) (hX : X < 4294967296) (hn : Pl.num mid.length m = Pl.num mid.length mid ^^^ 2 ^ b * X) : (decA (pre ++ (m ++ post))).why ≠ 0 := fun h => by
 obtain ⟨hb, hE, hS, hZl, hEn⟩ := head_back hI hw
 obtain ⟨p0, hlen, h4096, hcnt, h160, hdrop, htake⟩ := enc_parts hw
 have hf : 160 ≤ fstN I k := by
  have a := (beg_le k (stN I k).1.length).2
  have c := stN_mono I 1 k h1
  rw [st_one, List.length_replicate] at c
  have d : fstN I k = begN k (stN I k).1.length := rfl
  omega
 have hsx := sm_enc I
 have hq9 : hq (pre ++ (m ++ post)) = hq (encF I) := by
  unfold hq
  rw [hx, List.drop_zero, List.drop_zero, List.take_append_of_le_length (by omega), List.take_append_of_le_length (by omega)]
 have hh : hd0 (pre ++ (m ++ post)) = hd0 (encF I) := by
  unfold hd0
  rw [hq9]
 have h160y : 160 ≤ (pre ++ (m ++ post)).length := by rw [List.length_append]; omega
 rw [dec_all h160y] at h
 have hsl := (end_zero (pr_zero h)).1
 have hc := (seal_each 8 hsl k h1 h8).1
 rw [hh, hE k h1 h8] at hc
 have hc2 : Pl.crc (((pre ++ (m ++ post)).drop (fstN I k)).take (lenN I k)) = Pl.crc (secZ I (stN I 9).1 k) := hc
 rw [List.drop_left' hp, List.take_left' (hm.trans hl)] at hc2
 have hz : secZ I (stN I 9).1 k = mid := by
  rw [secZ, ← drop_of hdrop hf, hx, List.drop_left' hp, List.take_left' hl]
 rw [hz] at hc2
 rw [hx] at hsx
 have hms : ∀ z ∈ mid, z < 256 := fun z hz => hsx z (List.mem_append_right _ (List.mem_append_left _ hz))
 have hcl : Pl.crc mid < 256 ^ 4 := Nat.lt_succ_of_le (crc_lt hms)
 have hts : ∀ z ∈ Pl.le 4 (Pl.crc mid), z < 256 := Pl.le_small 4 _
 have ks : ∀ l : List Nat, (∀ z ∈ l, z < 256) → ∀ z ∈ l ++ Pl.le 4 (Pl.crc mid), z < 256 := fun l hl z hz => (List.mem_append.1 hz).elim (hl z) (hts z)
 have kn : ∀ l : List Nat, (∀ z ∈ l, z < 256) → l.length = mid.length → Pl.num (mid.length + 4) (l ++ Pl.le 4 (Pl.crc mid)) = Pl.num mid.length l ^^^ 2 ^ (8 * mid.length) * Pl.num 4 (Pl.le 4 (Pl.crc mid)) := fun l hl he => by
  rw [Pl.num_split mid.length 4 _ (ks l hl), num_front he, List.drop_left' he]
 refine Pl.burst_told mid.length (mid ++ Pl.le 4 (Pl.crc mid)) (m ++ Pl.le 4 (Pl.crc mid)) (ks mid hms) (ks m hs) (by rw [List.length_append]; omega) (by rw [List.length_append]; omega) ?_ b X h0 hX ?_ ?_
 ·rw [List.drop_left' rfl, List.take_left' rfl]
  have := Pl.num_le 4 (Pl.crc mid) [] hcl
  rwa [List.append_nil] at this
 ·rw [kn m hs hm, kn mid hms rfl, hn, Nat.xor_assoc, Nat.xor_assoc, Nat.xor_comm (2 ^ b * X)]
 ·rw [List.drop_left' hm, List.take_left' hm, hc2]
  have := Pl.num_le 4 (Pl.crc mid) [] hcl
  rwa [List.append_nil] at this
end Dc
end Go.Proofs.YtnifefmfhjfbnaaGreatDoor
