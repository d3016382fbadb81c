/- Two machines and a clone, apart from one another. Own work. -/
import Derived.Test.YtacmdalgdbfehaaBSame
import Derived.Test.YtacmdalgdbfehaaBGround2
import Derived.Test.YtacmdalgdbfehaaBFillM
import Derived.Test.YtacmdalgdbfehaaBHelp
namespace Go.Proofs.Ytacmdalgdbfehaa
open Go.RowKit Go.Maps Go.Proofs.Ytacmdalgdbfehaa.Sp
/-- what the first writes is none of the second's -/
def Apt (p Bp : Nat) (Tp : Nat → Option Nat) (q Bq : Nat) (Vq : Value × Value × Value) (Tq : Nat → Option Nat) : Prop := ∀ j, Mine q Bq Vq Tq j → ¬ (j = p ∨ Foot Bp Tp j)
theorem core_lt {w : World} {m B : Nat} {V : Value × Value × Value} {T : Nat → Option Nat} {M : Nat → Nat} {rs ds : List Sp} {L S X : Nat} (h : Mac w m B V T M rs ds L S X) {j : Nat} (hj : j = m ∨ Foot B T j) : j < w.heap.size := h.mine_lt (hj.elim (fun e => .inl e) (fun e => .inr (.inl e)))
theorem Apt.grow1 {wx : World} {p Bp q Bq : Nat} {Tp Tp' Tq : Nat → Option Nat} {Vq : Value × Value × Value} {M : Nat → Nat} {rs ds : List Sp} {L S X : Nat} (h : Apt p Bp Tp q Bq Vq Tq) (hq : Mac wx q Bq Vq Tq M rs ds L S X) (hg : Grows wx.heap.size Tp Tp') : Apt p Bp Tp' q Bq Vq Tq := fun j hj hc => h j hj (hc.elim (fun e => .inl e) (fun e => .inr (hg.foot e (hq.mine_lt hj))))
theorem Apt.grow2 {wx : World} {p Bp q Bq : Nat} {Tp Tq Tq' : Nat → Option Nat} {Vp Vq : Value × Value × Value} {M : Nat → Nat} {rs ds : List Sp} {L S X : Nat} (h : Apt p Bp Tp q Bq Vq Tq) (hp : Mac wx p Bp Vp Tp M rs ds L S X) (hg : Grows wx.heap.size Tq Tq') : Apt p Bp Tp q Bq Vq Tq' := fun j hj hc => by
  have hlt := core_lt hp hc
  refine h j ?_ hc
  rcases hj with e | hj | e
  · exact .inl e
  · exact .inr (.inl (hg.foot hj hlt))
  · exact .inr (.inr e)
/-- a machine that is another one's clone, just made -/
theorem Apt.clone {wx : World} {r Br m' B' : Nat} {Tr T' : Nat → Option Nat} {Vp Vr V' : Value × Value × Value} {M2 : Nat → Nat} {rs ds : List Sp} {L2 S2 X2 : Nat} (hr : Mac wx r Br Vr Tr M2 rs ds L2 S2 X2) (ha : ∀ j, Vp.2.2.ownBlock = some j → ¬ (j = r ∨ Foot Br Tr j)) (h1 : V'.2.2 = Vp.2.2) (h2 : wx.heap.size ≤ m') (h3 : ∀ j, Foot B' T' j → wx.heap.size ≤ j) (h4 : ∀ v, v = V'.1 ∨ v = V'.2.1 → ∀ j, v.ownBlock = some j → wx.heap.size ≤ j) :
    Apt r Br Tr m' B' V' T' ∧ Apt m' B' T' r Br Vr Tr := by
  refine ⟨fun j hj hc => ?_, fun j hj hc => ?_⟩
  · have hlt := core_lt hr hc
    rcases hj with e | hj | ⟨v, e, hv⟩
    · omega
    · have := h3 j hj; omega
    · rcases e with rfl | rfl | rfl
      · have := h4 _ (.inl rfl) j hv; omega
      · have := h4 _ (.inr rfl) j hv; omega
      · rw [h1] at hv
        exact ha j hv hc
  · have hlt := hr.mine_lt hj
    rcases hc with e | hc
    · omega
    · have := h3 j hc; omega
theorem own_ground {wx : World} {p Bp : Nat} {Tp : Nat → Option Nat} {Vp : Value × Value × Value} {M : Nat → Nat} {rs ds : List Sp} {L S X : Nat} (hp : Mac wx p Bp Vp Tp M rs ds L S X) : ∀ j, Vp.2.2.ownBlock = some j → ¬ (j = p ∨ Foot Bp Tp j) := fun j hj hc => by
  obtain ⟨_, _, _, _, _, _, _, _, _, _, _, h⟩ := hp
  have := h _ (.inr (.inr rfl)) j hj
  rcases hc with e | hc
  · exact this.2 e
  · exact this.1 hc
theorem apt_ground {p Bp q Bq : Nat} {Tp Tq : Nat → Option Nat} {Vq : Value × Value × Value} (h : Apt p Bp Tp q Bq Vq Tq) : ∀ j, Vq.2.2.ownBlock = some j → ¬ (j = p ∨ Foot Bp Tp j) := fun j hj => h j (.inr (.inr ⟨_, .inr (.inr rfl), hj⟩))
/-- two machines of the same bytes, apart -/
def Two (w wx : World) (M : Nat → Nat) (p q : Nat) : Prop :=
  ∃ Bp Vp Tp Lp Sp Xp Bq Vq Tq Lq Sq Xq, Mac wx p Bp Vp Tp M rsG dsG Lp Sp Xp ∧ Mac wx q Bq Vq Tq M rsG dsG Lq Sq Xq ∧ (∀ j, Mine p Bp Vp Tp j → w.heap.size ≤ j) ∧ (∀ j, Mine q Bq Vq Tq j → w.heap.size ≤ j) ∧ Apt p Bp Tp q Bq Vq Tq ∧ Apt q Bq Tq p Bp Vp Tp ∧ Lp ≤ 1000 ∧ Sp ≤ 1000 ∧ Xp ≤ 1000 ∧ Lq ≤ 1000 ∧ Sq ≤ 1000 ∧ Xq ≤ 1000
theorem Two.swap {w wx : World} {M : Nat → Nat} {p q : Nat} (h : Two w wx M p q) : Two w wx M q p := by
  obtain ⟨Bp, Vp, Tp, Lp, Sp, Xp, Bq, Vq, Tq, Lq, Sq, Xq, h1, h2, h3, h4, h5, h6, l1, l2, l3, l4, l5, l6⟩ := h
  exact ⟨Bq, Vq, Tq, Lq, Sq, Xq, Bp, Vp, Tp, Lp, Sp, Xp, h2, h1, h4, h3, h6, h5, l4, l5, l6, l1, l2, l3⟩
theorem mine_clone {wx : World} {n m' B' : Nat} {T' : Nat → Option Nat} {Vp V' : Value × Value × Value} (hn : n ≤ wx.heap.size) (hv : ∀ j, Vp.2.2.ownBlock = some j → n ≤ j) (h1 : V'.2.2 = Vp.2.2) (h2 : wx.heap.size ≤ m') (h3 : ∀ j, Foot B' T' j → wx.heap.size ≤ j) (h4 : ∀ v, v = V'.1 ∨ v = V'.2.1 → ∀ j, v.ownBlock = some j → wx.heap.size ≤ j) : ∀ j, Mine m' B' V' T' j → n ≤ j := fun j hj => by
  rcases hj with e | hj | ⟨v, e, hv'⟩
  · omega
  · have := h3 j hj; omega
  · rcases e with rfl | rfl | rfl
    · have := h4 _ (.inl rfl) j hv'; omega
    · have := h4 _ (.inr rfl) j hv'; omega
    · rw [h1] at hv'
      exact hv j hv'
theorem bare_fill {M : Nat → Nat} (h : Bare M) : putAt M 8192 (List.replicate 16384 0) = fun _ => 0 := by
  funext p
  unfold putAt
  split
  · rw [List.getD_eq_getElem?_getD, List.getElem?_replicate]
    split <;> rfl
  · rename_i hp
    rw [List.length_replicate] at hp
    exact h p hp
end Go.Proofs.Ytacmdalgdbfehaa
