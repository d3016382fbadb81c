/- Lanes: the queue behind its interface. Own work. -/
import Derived.Test.YtkhlkbgolonkkaaLnSwap
namespace Go.Proofs.Ytkhlkbgolonkkaa
open Go.RowKit
theorem q_push (w : World) (p : Option Addr) : (method 241 88 (.pointer p) "Push").run Try.prog w = .ok (85, .pointer p) w := by kernel_rfl
theorem q_pop (w : World) (p : Option Addr) : (method 241 88 (.pointer p) "Pop").run Try.prog w = .ok (84, .pointer p) w := by kernel_rfl
theorem q_load {w : World} {k : Nat} {v : Value} (h : w.cell? ⟨k, 0, none⟩ = some v) : (loadVar 83 ⟨k, 0, none⟩).run Try.prog w = .ok v w := by
  simp [loadVar, h]
theorem q_und (w : World) : (underlying 88).run Try.prog w = .ok (.pointer 83) w := by kernel_rfl
theorem q_nil (w : World) (k : Nat) (s : String) : (Builtin.ssaWrapNilChk_ #[88] 88 #[.pointer (some ⟨k, 0, none⟩), strVal "", strVal s]).run Try.prog w = .ok (.pointer (some ⟨k, 0, none⟩)) w := by kernel_rfl
theorem q_adr (w : World) (k : Nat) : (asAddr (.pointer (some ⟨k, 0, none⟩))).run Try.prog w = .ok ⟨k, 0, none⟩ w := by kernel_rfl
theorem q_recv {w : World} {k : Nat} {v : Value} (h : w.cell? ⟨k, 0, none⟩ = some v) (s : String) : (receiverAt 88 (.val (.pointer (some ⟨k, 0, none⟩))) false (some s)).run Try.prog w = .ok v w := by
  unfold receiverAt
  simp only [Sem.run_bind, q_und, Result.andThen_ok, Place.get, Sem.run_pure, q_nil, q_adr, q_load h]
theorem q_by {w : World} {k f : Nat} {v : Value} (s : String) (h : w.cell? ⟨k, 0, none⟩ = some v) (hi : (Try.prog.info? 88).map (fun i => (i.methods.find? (·.name == s)).map (fun m => (m.path, m.func))) = some (some (#[], some (f, false)))) : (method 241 88 (.pointer (some ⟨k, 0, none⟩)) s).run Try.prog w = .ok (f, v) w := by
  obtain ⟨i, e1, e2⟩ := Option.map_eq_some_iff.1 hi
  obtain ⟨m, e3, e4⟩ := Option.map_eq_some_iff.1 e2
  obtain ⟨hp, hf⟩ := Prod.mk.inj e4
  have ht : ∀ w, (typeInfo 88).run Try.prog w = .ok i w := fun w => by simp [typeInfo, e1]
  have hfo : ∀ w, (follow [] 88 (.val (.pointer (some ⟨k, 0, none⟩)))).run Try.prog w = .ok (88, .val (.pointer (some ⟨k, 0, none⟩))) w := fun _ => by kernel_rfl
  rw [show (241 : Nat) = (241 - 1) + 1 from rfl, method]
  simp only [Sem.run_bind, ht, Result.andThen_ok, e3, hp, hf, hfo]
  rw [if_pos (by rfl)]
  simp only [q_recv h, Result.andThen_ok, Sem.run_pure]
theorem q_len {w : World} {k : Nat} {v : Value} (h : w.cell? ⟨k, 0, none⟩ = some v) : (method 241 88 (.pointer (some ⟨k, 0, none⟩)) "Len").run Try.prog w = .ok (81, v) w := q_by "Len" h (by kernel_rfl)
theorem q_less {w : World} {k : Nat} {v : Value} (h : w.cell? ⟨k, 0, none⟩ = some v) : (method 241 88 (.pointer (some ⟨k, 0, none⟩)) "Less").run Try.prog w = .ok (82, v) w := q_by "Less" h (by kernel_rfl)
theorem q_swap {w : World} {k : Nat} {v : Value} (h : w.cell? ⟨k, 0, none⟩ = some v) : (method 241 88 (.pointer (some ⟨k, 0, none⟩)) "Swap").run Try.prog w = .ok (83, v) w := q_by "Swap" h (by kernel_rfl)
end Go.Proofs.Ytkhlkbgolonkkaa
