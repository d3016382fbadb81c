import Derived.Test.YtnifefmfhjfbnaaGreatDoorPk45
import Derived.Test.YtnifefmfhjfbnaaGreatDoorCards
import Derived.Test.YtnifefmfhjfbnaaGreatDoorPk00
import Derived.WalkKit
import Derived.ProofKit
import Derived.OpenShut
import Derived.ShutString
import Derived.ChangeOld
import Derived.Below
import Derived.Deep.DeepHandedRow
/- Bundle: a refusal's place. Plain. Own work. -/
namespace Go.Proofs.YtnifefmfhjfbnaaGreatDoor
open Bn Dc
set_option linter.unusedVariables false
set_option linter.unusedSimpArgs false
namespace Dc
/-- the place lies within the bytes -/
structure Pl8 (N : Nat) (s : D) : Prop where
  sec : 0 ≤ s.sec ∧ s.sec ≤ 8
  ad : 0 ≤ s.ad ∧ s.ad ≤ (N : Int)
/-- where the reading stands, and its refusal's place -/
structure Bd (N : Nat) (q : Pt) (s : D) : Prop where
  pl : Pl8 N s
  pos : s.pos ≤ q.Z.length
section
variable {N : Nat} {q : Pt} {s : D}
/-- a part that lies within the bytes -/
structure Qi (N : Nat) (q : Pt) : Prop where
  pt : q.pt ≤ 8
  fi : q.fi + q.Z.length ≤ N
theorem ask_pl {b : Bool} {no sec ad : Int} (h : Pl8 N s) (h1 : s.why = 0 → 0 ≤ sec ∧ sec ≤ 8 ∧ 0 ≤ ad ∧ ad ≤ (N : Int)) : Pl8 N (askD b no sec ad s) := by
  unfold askD
  split
  · rename_i hh
    obtain ⟨a, b, c, d⟩ := h1 hh.2
    exact ⟨⟨a, b⟩, ⟨c, d⟩⟩
  · exact h
theorem form_bd (hq : Qi N q) {b : Bool} {a : Nat} (h : Bd N q s) (ha : a ≤ q.Z.length) : Bd N q (formD q b a s) := ⟨ask_pl h.pl (fun _ => by have := hq.pt; have := hq.fi; omega), by
  unfold formD askD
  split
  · exact h.pos
  · exact h.pos⟩
theorem take_bd (k : Nat) (h : Bd N q s) : Bd N q (takeD q k s).2 := by
  unfold takeD
  split
  · split
    · rename_i h2
      exact ⟨⟨h.pl.sec, h.pl.ad⟩, h2⟩
    · exact ⟨⟨h.pl.sec, h.pl.ad⟩, h.pos⟩
  · exact h
theorem bytes_bd (n : Nat) (h : Bd N q s) : Bd N q (bytesD q n s).2 := by
  unfold bytesD
  split
  · split
    · rename_i h2
      exact ⟨⟨h.pl.sec, h.pl.ad⟩, h2⟩
    · exact ⟨⟨h.pl.sec, h.pl.ad⟩, h.pos⟩
  · exact h
theorem pad_bd (al : Nat) (h : Bd N q s) : Bd N q (padD q al s) := by
  unfold padD
  split
  · split
    · rename_i h2
      split
      · exact ⟨⟨h.pl.sec, h.pl.ad⟩, h2⟩
      · exact ⟨⟨h.pl.sec, h.pl.ad⟩, h.pos⟩
    · exact ⟨⟨h.pl.sec, h.pl.ad⟩, h.pos⟩
  · exact h
theorem none_bd (h : Bd N q s) : Bd N q (noneD q s).2 := take_bd 2 h
theorem flag_bd (hq : Qi N q) (h : Bd N q s) : Bd N q (flagD q s).2 := form_bd hq (take_bd 1 h) h.pos
theorem zeros_bd (hq : Qi N q) (n : Nat) (h : Bd N q s) : Bd N q (zerosD q n s) := form_bd hq (bytes_bd n h) h.pos
theorem many_bd (hq : Qi N q) (h : Bd N q s) : Bd N q (manyD q s).2 := zeros_bd hq 6 (take_bd 2 h)
theorem text_bd (hq : Qi N q) (h : Bd N q s) : Bd N q (textD q s).2 := pad_bd 8 (bytes_bd _ (form_bd hq (take_bd 4 h) h.pos))
theorem list_bd {γ : Type} {one : D → γ × D} (ho : ∀ t, Bd N q t → Bd N q (one t).2) (h : Bd N q s) : ∀ n, Bd N q (listD one n s).2
  | 0 => h
  | n + 1 => by
    rw [listD, stepL]
    split
    · exact ho _ (list_bd ho h n)
    · exact list_bd ho h n
theorem span_bd (h : Bd N q s) : Bd N q (spanD q s).2 := take_bd 8 (take_bd 8 h)
theorem ten_bd (hq : Qi N q) (h : Bd N q s) : Bd N q (tenD q s).2 := none_bd (none_bd (take_bd 1 (take_bd 1 (flag_bd hq (take_bd 1 h)))))
theorem port_bd (hq : Qi N q) (h : Bd N q s) : Bd N q (portD q s).2 := zeros_bd hq 6 (none_bd h)
theorem gd_bd (hq : Qi N q) (h : Bd N q s) : Bd N q (gdD q s).2 := text_bd hq (zeros_bd hq 3 (take_bd 1 (take_bd 8 (take_bd 8 h))))
theorem ch_bd (hq : Qi N q) (h : Bd N q s) : Bd N q (chD q s).2 := zeros_bd hq 2 (take_bd 1 (take_bd 1 (none_bd (none_bd h))))
theorem iq_bd (hq : Qi N q) (h : Bd N q s) : Bd N q (iqD q s).2 := zeros_bd hq 2 (flag_bd hq (take_bd 1 (none_bd (none_bd h))))
theorem st_bd (hq : Qi N q) (h : Bd N q s) : Bd N q (stD q s).2 := take_bd 4 (zeros_bd hq 2 (none_bd h))
theorem lane_bd (hq : Qi N q) (h : Bd N q s) : Bd N q (laneD q s).2 := list_bd (fun t ht => st_bd hq ht) (many_bd hq h) _
theorem plan_bd (hq : Qi N q) (n : Nat) (h : Bd N q s) : Bd N q (planD q n s).2 := list_bd (fun t ht => lane_bd hq ht) (zeros_bd hq 4 (take_bd 4 h)) _
theorem sec_bd (hq : Qi N q) (k : Nat) (J : Im) (h : Bd N q s) : Bd N q (secD k q J s).2 := by
  unfold secD
  split
  · exact list_bd (fun t ht => span_bd ht) (list_bd (fun t ht => span_bd ht) (zeros_bd hq 4 (take_bd 2 (take_bd 2 h))) _) _
  · exact list_bd (fun t ht => ten_bd hq ht) (many_bd hq h) _
  · exact list_bd (fun t ht => port_bd hq ht) (zeros_bd hq 6 (form_bd hq (take_bd 2 h) (Nat.zero_le _))) _
  · exact list_bd (fun t ht => gd_bd hq ht) (many_bd hq h) _
  · exact list_bd (fun t ht => ch_bd hq ht) (many_bd hq h) _
  · exact list_bd (fun t ht => iq_bd hq ht) (many_bd hq h) _
  · exact list_bd (fun t ht => plan_bd hq _ ht) (take_bd 2 (none_bd (form_bd hq (take_bd 2 (take_bd 2 h)) (take_bd 2 h).pos))) _
  · exact list_bd (one := tabD q) (fun t ht => (show Bd N q (tabD q t).2 from bytes_bd 4096 ht)) h _
theorem end_bd (hq : Qi N q) (h : Bd N q s) : Bd N q (endD q s) := form_bd hq h h.pos
end
theorem zs_pl {N : Nat} {bs : List Nat} {k e0 : Nat} {s : D} (hk : k ≤ 8) (h : Pl8 N s) : ∀ n, (s.why = 0 → e0 + n ≤ N) → Pl8 N (zsS bs k e0 n s)
  | 0, _ => h
  | n + 1, hn => by
    rw [zsS]
    refine ask_pl (zs_pl hk h n (fun e => by have := hn e; omega)) (fun e => ?_)
    have := hn (zs_zero n e).1
    omega
theorem seal_pl {E : Nat → En} {bs : List Nat} {s : D} (h : Pl8 bs.length s) (hE : s.why = 0 → ∀ j, 1 ≤ j → j ≤ 8 → (E j).f ≤ bs.length) : ∀ k, k ≤ 8 → Pl8 bs.length (sealS E bs k s)
  | 0, _ => h
  | k + 1, hk => by
    rw [sealS]
    have hz : Pl8 bs.length (zsS bs (k + 1) (endN E bs.length k) ((E (k + 1)).f - endN E bs.length k) (sealS E bs k s)) := by
      by_cases e : endN E bs.length k ≤ (E (k + 1)).f
      · refine zs_pl hk (seal_pl h hE k (by omega)) _ (fun e2 => ?_)
        have := hE (seal_zero k e2) (k + 1) (by omega) hk
        omega
      · rw [show (E (k + 1)).f - endN E bs.length k = 0 by omega]
        exact seal_pl h hE k (by omega)
    refine ask_pl hz (fun e => ?_)
    have h9 := hE (seal_zero k (zs_zero _ e).1) (k + 1) (by omega) hk
    omega
theorem dir_pl {E : Nat → En} {N M : Nat} {s : D} (hN : 160 ≤ N) (h : Pl8 N s) : ∀ k, k ≤ 8 → Pl8 N (dirS E M k s)
  | 0, _ => h
  | k + 1, hk => by
    rw [dirS]
    refine ask_pl (dir_pl hN h k (by omega)) (fun _ => ?_)
    omega
theorem asks_pl {bs : List Nat} {x : Hd} {s : D} (hN : 160 ≤ bs.length) (h : Pl8 bs.length s) : Pl8 bs.length (asksD bs x s) := by
  unfold asksD
  refine ask_pl (ask_pl (ask_pl (ask_pl (ask_pl (ask_pl (ask_pl (ask_pl (ask_pl h ?_) ?_) ?_) ?_) ?_) ?_) ?_) ?_) ?_
  all_goals intro e
  · omega
  · omega
  · omega
  · omega
  · omega
  · omega
  · omega
  · have := of_decide_eq_true (ask_zero' (by decide) e).1
    omega
  · omega
/-- where and why: the place lies within the bytes -/
theorem dec_place (bs : List Nat) : (0 ≤ (decA bs).sec ∧ (decA bs).sec ≤ 8) ∧ 0 ≤ (decA bs).ad ∧ (decA bs).ad ≤ (bs.length : Int) := by
  by_cases h160 : bs.length < 160
  · rw [decA, if_pos h160]
    refine ⟨⟨?_, ?_⟩, ?_, ?_⟩
    · show (0 : Int) ≤ 0; omega
    · show (0 : Int) ≤ 8; omega
    · show (0 : Int) ≤ (bs.length : Int); omega
    · show (bs.length : Int) ≤ bs.length; omega
  · have h1 : 160 ≤ bs.length := by omega
    rw [dec_all h1]
    have hZl : (hq bs).Z.length = 160 := by
      show ((bs.drop 0).take 160).length = 160
      rw [List.length_take, List.length_drop]; omega
    have hQ : Qi bs.length (hq bs) := ⟨Nat.zero_le _, by rw [hZl]; show 0 + 160 ≤ _; omega⟩
    have h0 : Bd bs.length (hq bs) ⟨0, 0, 0, 0, 0⟩ := ⟨⟨by show (0 : Int) ≤ 0 ∧ (0 : Int) ≤ 8; omega, by show (0 : Int) ≤ 0 ∧ (0 : Int) ≤ bs.length; omega⟩, Nat.zero_le _⟩
    have hent : ∀ k t, Bd bs.length (hq bs) t → Bd bs.length (hq bs) (entS (hq bs) t k) := fun k => by
      induction k with
      | zero => intro t h; exact h
      | succ k ih => intro t h; exact take_bd 4 (take_bd 4 (take_bd 4 (take_bd 2 (take_bd 2 (ih t h)))))
    have hhd : Bd bs.length (hq bs) (hd0 bs).s := by
      unfold hd0 hdD
      dsimp only
      exact take_bd 4 (take_bd 4 (hent 8 _ (take_bd 8 (take_bd 4 (take_bd 2 (take_bd 2 (bytes_bd 8 h0)))))))
    have hA := asks_pl (x := (hd0 bs).x) h1 hhd.pl
    have hD := dir_pl (E := (hd0 bs).E) (M := bs.length) h1 hA 8 (Nat.le_refl 8)
    have hS : Pl8 bs.length (headS bs) := seal_pl hD (fun e j a b => by
      obtain ⟨e1, e2⟩ := dirS_ok 8 e
      obtain ⟨o1, o2, o3, o4, o5⟩ := ok_end a b (e2 j a b)
      omega) 8 (Nat.le_refl 8)
    have hH : Bd bs.length (hq bs) (headS bs) := ⟨hS, by rw [(head_rw bs).2]; exact hhd.pos⟩
    have key : ∀ k, k ≤ 8 → (0 ≤ (prA bs k).sec ∧ (prA bs k).sec ≤ 8) ∧ 0 ≤ (prA bs k).ad ∧ (prA bs k).ad ≤ (bs.length : Int) := fun k => by
      induction k with
      | zero =>
        intro _
        have h9 := (end_bd hQ hH).pl
        exact ⟨h9.sec, h9.ad⟩
      | succ k ih =>
        intro hk
        obtain ⟨i1, i2⟩ := ih (by omega)
        by_cases e : (prA bs k).why = 0
        · rw [pr_next e]
          obtain ⟨hN, hok⟩ := head_ok (pr_zero e)
          obtain ⟨o1, o2, o3, o4, o5⟩ := ok_end (k := k + 1) (by omega) hk (hok (k + 1) (by omega) hk)
          have hQk : Qi bs.length (qOf (hd0 bs).E bs (k + 1)) := ⟨hk, by
            rw [qOf_len (by omega)]
            show ((hd0 bs).E (k + 1)).f + _ ≤ _
            omega⟩
          have h9 := (end_bd hQk (sec_bd hQk (k + 1) (prA bs k).J (s := startD (prA bs k)) ⟨⟨i1, i2⟩, Nat.zero_le _⟩)).pl
          exact ⟨h9.sec, h9.ad⟩
        · rw [show prA bs (k + 1) = prA bs k from partsA_stop (k := k) e (k + 1) (by omega)]
          exact ⟨i1, i2⟩
    exact key 8 (Nat.le_refl 8)
end Dc
end Go.Proofs.YtnifefmfhjfbnaaGreatDoor
/- Bundle: an image is not greater than its bytes. Plain. Own work. -/
namespace Go.Proofs.YtnifefmfhjfbnaaGreatDoor
open Bn Dc
set_option linter.unusedVariables false
set_option linter.unusedSimpArgs false
namespace Dc
theorem lay_c {γ : Type} {f : γ → List Nat} {c : Nat} (hf : ∀ x, (f x).length = c) : ∀ (xs : List γ) (a : Nat), (layL (fun _ => f) a xs).length = c * xs.length
  | [], _ => rfl
  | x :: xs, a => by rw [layL, List.length_append, hf, lay_c hf xs, List.length_cons, Nat.mul_succ]; omega
theorem gs_le : ∀ (xs : List Gd) (a : Nat), gsum xs ≤ 2 * (layL gdB a xs).length
  | [], _ => Nat.zero_le _
  | x :: xs, a => by
    have h := gs_le xs (a + (gdB a x).length)
    have hl : 24 + x.txt.size ≤ (gdB a x).length := by
      simp only [gdB, textB, List.length_append, Pl.le_length, b1_len, bz_len, b4_len, bts_len]
      omega
    rw [layL, List.length_append]
    show 31 + x.txt.size + gsum xs ≤ _
    omega
theorem lane_l (l : List (Int × Int)) : (laneB l).length = 8 + 8 * l.length := by rw [laneB, List.length_append, manyB_len, lay_c stB_len]
theorem ls_eq : ∀ (ls : List (List (Int × Int))) (a : Nat), (layL (fun _ => laneB) a ls).length = lsum ls
  | [], _ => rfl
  | l :: ls, a => by
    rw [layL, List.length_append, lane_l, ls_eq ls]
    rfl
theorem ps_eq : ∀ (ps : List Sc) (a : Nat), (layL (fun _ => planB) a ps).length = psum ps
  | [], _ => rfl
  | p :: ps, a => by
    rw [layL, List.length_append, ps_eq ps]
    show (planB p).length + psum ps = 8 + lsum p.lanes + psum ps
    rw [planB, List.length_append, List.length_append, b4_len, bz_len, ls_eq]
    omega
theorem st_grow (I : Im) (k : Nat) : (stN I k).1.length + (secB I k).length ≤ (stN I (k + 1)).1.length := by
  rw [(st_next I k).1, List.length_append, List.length_append]
  omega
theorem sz_len (I : Im) : szI I ≤ 1000 + 2 * (stN I 9).1.length := by
  have g1 := st_grow I 1
  have g2 := st_grow I 2
  have g3 := st_grow I 3
  have g4 := st_grow I 4
  have g5 := st_grow I 5
  have g6 := st_grow I 6
  have g7 := st_grow I 7
  have g8 := st_grow I 8
  have l1 : 16 * I.rams.length + 16 * I.devs.length ≤ (secB I 1).length := by
    simp only [secB, List.length_append, lay_c rangeB_len]
    omega
  have l2 : 8 * I.subs.length ≤ (secB I 2).length := by
    simp only [secB, List.length_append, lay_c tenB_len]
    omega
  have l3 : 8 * I.ports.length ≤ (secB I 3).length := by
    simp only [secB, List.length_append, lay_c portB_len]
    omega
  have l4 : gsum I.regs ≤ 2 * (secB I 4).length := by
    have := gs_le I.regs 0
    simp only [secB, List.length_append]
    omega
  have l5 : 8 * I.chs.length ≤ (secB I 5).length := by
    simp only [secB, List.length_append, lay_c chB_len]
    omega
  have l6 : 8 * I.irqs.length ≤ (secB I 6).length := by
    simp only [secB, List.length_append, lay_c iqB_len]
    omega
  have l7 : psum I.plans ≤ (secB I 7).length := by
    simp only [secB, List.length_append, ps_eq]
    omega
  have l8 : 4096 * I.tabs.length ≤ (secB I 8).length := by
    show _ ≤ (layL (fun _ => tabB) 0 I.tabs).length
    rw [lay_c tabB_len]
    omega
  simp only [Nat.reduceAdd] at g1 g2 g3 g4 g5 g6 g7 g8
  unfold szI
  omega
/-- of bytes that are taken -/
theorem dec_sz {bs : List Nat} (hb : ∀ z ∈ bs, z < 256) (h : (decA bs).why = 0) : szI (decA bs).J ≤ 20000000000 := by
  obtain ⟨h1, h2, h3, h4⟩ := forth_all hb h
  have h5 := sz_len (decA bs).J
  have h6 := (enc_parts h2).2.1
  rw [h3] at h6
  omega
end Dc
end Go.Proofs.YtnifefmfhjfbnaaGreatDoor
/- Bytes that come in. Own work. -/
namespace Go.Proofs.YtnifefmfhjfbnaaGreatDoor
open Go.ChangeShapes Go.WideShapes Go.ChangeAt Go.RowKit
/-- what is told of a slice of integers that came in -/
def IsRow (k : IntKind) (w : World) (a : Option Addr) (len cap : Nat) (zs : List Int) : Prop :=
  (a = none ∧ len = 0 ∧ cap = 0 ∧ zs = []) ∨
  ∃ x, a = some x ∧ len ≤ cap ∧ cap ≤ maxLen ∧ zs.length = cap ∧ (∀ i, i < zs.length → w.cell? (x.add i) = some (.int k (zs.getD i 0))) ∧ ∀ n ∈ zs, (Lit.int k n).wf = true
theorem sl_isrow {w : World} {a : Option Addr} {len cap : Nat} {zs : List Int} (h : IsRow .u8 w a len cap zs) : ∃ p : List Nat, p.length = len ∧ Sl w (.slice a len cap) p := by
  rcases h with ⟨rfl, rfl, rfl, _⟩ | ⟨x, rfl, hl, hm, hz, hc, hw⟩
  · exact ⟨[], rfl, none, 0, rfl, by simp, by simp [maxLen], by simp, fun _ => rfl, fun i hi => by simp at hi⟩
  · refine ⟨(zs.take len).map Int.toNat, by simp; omega, some x, cap, ?_, by simp; omega, hm, ?_, by simp, ?_⟩
    · congr 1
      simp; omega
    · intro z hz'
      obtain ⟨y, hy, rfl⟩ := List.mem_map.1 hz'
      have := bounds_u8 (hw y (List.mem_of_mem_take hy))
      omega
    · intro i hi
      have hi' : i < len := by simp at hi; omega
      obtain ⟨b, o, rfl, hc'⟩ := ints_at hc (show 0 < zs.length by omega)
      refine ⟨b, o, rfl, ?_⟩
      rw [hc' i (by omega)]
      have hb := bounds_u8 (hw zs[i] (List.getElem_mem (by omega)))
      have e1 : zs.getD i 0 = zs[i] := by rw [List.getD_eq_getElem?_getD, List.getElem?_eq_getElem (by omega)]; rfl
      have e2 : ((zs.take len).map Int.toNat).getD i 0 = zs[i].toNat := by
        rw [List.getD_eq_getElem?_getD, List.getElem?_map, List.getElem?_take, if_pos hi', List.getElem?_eq_getElem (by omega)]
        rfl
      rw [e1, e2]
      congr 2
      omega
end Go.Proofs.YtnifefmfhjfbnaaGreatDoor
