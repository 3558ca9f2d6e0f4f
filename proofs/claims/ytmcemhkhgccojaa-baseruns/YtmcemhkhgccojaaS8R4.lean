/- An act that lies in a variable, loaded whole. -/
import Derived.Test.YtmcemhkhgccojaaAFr
import Derived.Test.YtmcemhkhgccojaaS8R1
import Derived.Deep.RegionHeld3
namespace Go.Proofs.Ytmcemhkhgccojaa
open Go.RowKit
set_option linter.unusedVariables false

theorem load_act (nb : Nat) (z : ActZ) (X : World) (h : Var X nb (actC z)) : (Instr.loadAt 43 (.pointer (some ⟨nb, 0, none⟩))).run Try.prog X = .ok (.agg (actC z).toArray) X := by
  have c0 := h.cell 0 rfl
  have c1 := h.cell 1 rfl
  have c2 := h.cell 2 rfl
  have c3 := h.cell 3 rfl
  have c4 := h.cell 4 rfl
  have c5 := h.cell 5 rfl
  have c6 := h.cell 6 rfl
  have c7 := h.cell 7 rfl
  have c8 := h.cell 8 rfl
  have c9 := h.cell 9 rfl
  have c10 := h.cell 10 rfl
  have c11 := h.cell 11 rfl
  have c12 := h.cell 12 rfl
  have c13 := h.cell 13 rfl
  have c14 := h.cell 14 rfl
  have c15 := h.cell 15 rfl
  have c16 := h.cell 16 rfl
  clear h
  go_simp
  all_goals rfl
theorem load_actV {a : Act} {o : Oper} {nb : Nat} {z : ActZ} {V : Value} {p : Operand} (hV : Value.agg (actC z).toArray = V) (ho : o.op = .load 43 p) (hp : a.eval p = .pointer (some ⟨nb, 0, none⟩)) (X : World) (h : Var X nb (actC z)) : (execOp a.eval o).run Try.prog X = .ok (.value V) X := by
  unfold execOp
  rw [ho]
  simp only [hp]
  rw [← hV]
  have := load_act nb z X h
  simp [this]
end Go.Proofs.Ytmcemhkhgccojaa
