/- Keys that came in, opened. -/
import Derived.Test.YtibbhfmpgpkdaaaOFr
import Derived.Test.YtibbhfmpgpkdaaaX8A
namespace Go.Proofs.Ytibbhfmpgpkdaaa
open Go.ChangeShapes Go.WideShapes Go.ChangeAt Go.RowKit
theorem cells_key : Try.prog.cellsOf 41 = 3 := by kernel_rfl
theorem fields_key : ∃ fs : Array Field, Try.prog.underlying 41 = some (.struct fs) ∧ fs.size = 3 ∧ ∀ i, i < 3 → (fs[i]?).map (fun f => (f.type, f.offset)) = some (3, i) :=
  ⟨_, Try.underlying41, rfl, by decide⟩
section
variable {H : Type} {enc : TypeId × Value → H} {W : World} {base : Nat} {spare : Nat → Bool} {held : Bool}
theorem open_key (n : Nat) (cs : List Value) (y : DataW H × List MemPlace) (h : DataW.trod enc Try.prog W base spare held n 41 cs = some y) : ∃ z : KeyZ, cs = [.int .i64 z.kind, .int .i64 z.id, .int .i64 z.adv] := by
  obtain ⟨fs, ht, hsz, hg⟩ := fields_key
  have hi := int_struct ht hsz hg h
  have hl := (trod_len ht h).trans cells_key
  obtain ⟨k0, h0⟩ := hi 0 (by omega)
  obtain ⟨k1, h1⟩ := hi 1 (by omega)
  obtain ⟨k2, h2⟩ := hi 2 (by omega)
  match cs, hl with
  | [c0, c1, c2], _ =>
    simp at h0 h1 h2
    subst h0 h1 h2
    exact ⟨⟨k0, k1, k2⟩, rfl⟩
set_option maxRecDepth 20000 in
theorem open_keyV {b0 : Nat} {v : Value} {d : DataW H} {ps : List MemPlace} (hv : Value.okWide Try.prog W .any b0 41 v) (h : DataW.Trod enc Try.prog W base spare held 41 v d ps) :
    ∃ (z : KeyZ), v = .agg (keyV z) := by
  obtain ⟨fs, ht, _⟩ := fields_key
  obtain ⟨cs, rfl, _⟩ := okWide_struct ht hv
  obtain ⟨fuel, hf⟩ := h
  obtain ⟨z, h1⟩ := open_key _ _ _ hf
  refine ⟨z, ?_⟩
  obtain ⟨cl⟩ := cs
  simp [Value.cells] at h1
  rw [h1]
end
end Go.Proofs.Ytibbhfmpgpkdaaa
