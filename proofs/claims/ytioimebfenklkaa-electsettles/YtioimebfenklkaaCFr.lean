/- Candidates that came in, opened. -/
import Derived.Test.YtioimebfenklkaaIFr
import Derived.Test.YtioimebfenklkaaE10P
namespace Go.Proofs.Ytioimebfenklkaa
open Go.ChangeShapes Go.WideShapes Go.ChangeAt Go.RowKit

section
variable {H : Type} {enc : TypeId × Value → H} {W : World} {base : Nat} {spare : Nat → Bool} {held : Bool}
theorem cells_cand : Try.prog.cellsOf 23 = 5 := by kernel_rfl
theorem fields_cand : ∃ fs : Array Field, Try.prog.underlying 23 = some (.struct fs) ∧ fs.size = 5 ∧ ∀ i, i < 5 → (fs[i]?).map (fun f => (f.type, f.offset)) = some (3, i) :=
  ⟨_, Try.underlying23, rfl, by decide⟩
theorem open_candC (n : Nat) (cs : List Value) (y : DataW H × List MemPlace) (h : DataW.trod enc Try.prog W base spare held n 23 cs = some y) : ∃ z : CandZ, cs = candC z := by
  obtain ⟨fs, ht, hsz, hg⟩ := fields_cand
  have hi := int_struct ht hsz hg h
  have hl := (trod_len ht h).trans cells_cand
  obtain ⟨k0, h0⟩ := hi 0 (by omega)
  obtain ⟨k1, h1⟩ := hi 1 (by omega)
  obtain ⟨k2, h2⟩ := hi 2 (by omega)
  obtain ⟨k3, h3⟩ := hi 3 (by omega)
  obtain ⟨k4, h4⟩ := hi 4 (by omega)
  match cs, hl with
  | [c0, c1, c2, c3, c4], _ =>
    simp at h0 h1 h2 h3 h4
    subst h0 h1 h2 h3 h4
    exact ⟨⟨k0, k1, k2, k3, k4⟩, rfl⟩
theorem open_cand {b0 : Nat} {v : Value} {d : DataW H} {ps : List MemPlace} (hv : Value.okWide Try.prog W .any b0 23 v) (h : DataW.Trod enc Try.prog W base spare held 23 v d ps) : ∃ (z : CandZ), v = .agg (candA z) := by
  obtain ⟨fs, ht, hsz, hg⟩ := fields_cand
  obtain ⟨cs, rfl, _⟩ := okWide_struct ht hv
  obtain ⟨fuel, hf⟩ := h
  obtain ⟨z, hz⟩ := open_candC _ _ _ hf
  obtain ⟨cl⟩ := cs
  simp only [Value.cells] at hz
  exact ⟨z, by rw [hz]; rfl⟩
theorem open_cands {b0 : Nat} {v : Value} {d : DataW H} {ps : List MemPlace} (hv : Value.okWide Try.prog W .any b0 24 v) (h : DataW.Trod enc Try.prog W base spare held 24 v d ps) :
    ∃ (a : Option Addr) (cap : Nat) (L : List CandZ), v = .slice a L.length cap ∧ Lies W a (cellsOf candC L) ∧ (a = none → cap = 0) ∧ L.length ≤ maxLen := by
  obtain ⟨a, len, cap, rfl⟩ := okWide_slice Try.underlying24 hv
  obtain ⟨fuel, hf⟩ := h
  obtain ⟨a', cap', l, h1, h2, h3, h4⟩ := open_list candC 5 candC_length (by omega) Try.underlying24 cells_cand open_candC hf
  simp [Value.cells] at h1
  obtain ⟨rfl, rfl, rfl⟩ := h1
  exact ⟨_, _, l, rfl, h2, h3, h4⟩
end
end Go.Proofs.Ytioimebfenklkaa
