/- Heads that came in, opened. -/
import Derived.Test.YtckehmjgimbepaaS7D
import Derived.ProofKit
import Derived.OpenShut
import Derived.ShutString
import Derived.ChangeOld
import Derived.Below
namespace Go.Proofs.Ytckehmjgimbepaa
open Go.ChangeShapes Go.WideShapes Go.ChangeAt Go.RowKit

theorem own : ownKnob Try.prog.godebug = none := by kernel_rfl
theorem laidOut : laidOutB Try.prog = true := by kernel_rfl
section
variable {H : Type} {enc : TypeId × Value → H} {W : World} {base : Nat} {spare : Nat → Bool} {held : Bool}
theorem field_at {fs : Array Field} {i ty off : Nat} (h : (fs[i]?).map (fun f => (f.type, f.offset)) = some (ty, off)) : ∃ f, fs[i]? = some f ∧ f.type = ty ∧ f.offset = off := by
  obtain ⟨f, hf, e⟩ := Option.map_eq_some_iff.1 h
  simp only [Prod.mk.injEq] at e
  exact ⟨f, hf, e.1, e.2⟩
theorem cells_int : Try.prog.cellsOf 3 = 1 := by kernel_rfl
theorem cells_head : Try.prog.cellsOf 23 = 7 := by kernel_rfl
theorem fields_head : ∃ fs : Array Field, Try.prog.underlying 23 = some (.struct fs) ∧ fs.size = 7 ∧ ∀ i, i < 7 → (fs[i]?).map (fun f => (f.type, f.offset)) = some (3, i) :=
  ⟨_, Try.underlying23, rfl, by decide⟩
theorem trod_len {t : TypeId} {fs : Array Field} (ht : Try.prog.underlying t = some (.struct fs)) {fuel : Nat} {cs : List Value} {x : DataW H × List MemPlace} (h : DataW.trod enc Try.prog W base spare held fuel t cs = some x) : cs.length = Try.prog.cellsOf t := by
  obtain ⟨_, _, _, _, h1, _⟩ := DataW.trod_struct ht h; exact h1
theorem one_in {n i : Nat} {cs : List Value} {y : DataW H × List MemPlace} (h : DataW.trod enc Try.prog W base spare held n 3 ((cs.drop i).take 1) = some y) : ∃ k : Int, cs[i]? = some (.int .i64 k) ∧ In64 k := by
  obtain ⟨k, hk, _, hw⟩ := DataW.trod_int Try.underlying3 h
  refine ⟨k, ?_, by simpa [In64, Lit.wf, IntKind.min, IntKind.max, IntKind.signed, IntKind.bits] using hw⟩
  have := congrArg (fun l : List Value => l[0]?) hk
  simpa [List.getElem?_take, List.getElem?_drop] using this
theorem in_struct {t : TypeId} {fs : Array Field} {n : Nat} (ht : Try.prog.underlying t = some (.struct fs)) (hsz : fs.size = n) (hg : ∀ i, i < n → (fs[i]?).map (fun f => (f.type, f.offset)) = some (3, i))
    {fuel : Nat} {cs : List Value} {x : DataW H × List MemPlace} (h : DataW.trod enc Try.prog W base spare held fuel t cs = some x) : ∀ i, i < n → ∃ k : Int, cs[i]? = some (.int .i64 k) ∧ In64 k := by
  obtain ⟨xs, m, _, _, _, hlen, hall⟩ := DataW.trod_struct ht h
  intro i hi
  obtain ⟨f, hf, h1, h2⟩ := field_at (hg i hi)
  have h3 := hall i f hf
  rw [h1, h2, cells_int, List.getElem?_eq_getElem (by omega)] at h3
  exact one_in h3
theorem open_hd {b0 : Nat} {v : Value} {d : DataW H} {ps : List MemPlace} (hv : Value.okWide Try.prog W .any b0 23 v) (h : DataW.Trod enc Try.prog W base spare held 23 v d ps) :
    ∃ (z : Hd), v = .agg (hdA z) ∧ In64 z.age := by
  obtain ⟨fs, ht, hsz, hg⟩ := fields_head
  obtain ⟨cs, rfl, _⟩ := okWide_struct ht hv
  obtain ⟨fuel, hf⟩ := h
  have hi := in_struct ht hsz hg hf
  have hl := (trod_len ht hf).trans cells_head
  obtain ⟨k0, h0, i0⟩ := hi 0 (by omega)
  obtain ⟨k1, h1, i1⟩ := hi 1 (by omega)
  obtain ⟨k2, h2, i2⟩ := hi 2 (by omega)
  obtain ⟨k3, h3, i3⟩ := hi 3 (by omega)
  obtain ⟨k4, h4, i4⟩ := hi 4 (by omega)
  obtain ⟨k5, h5, i5⟩ := hi 5 (by omega)
  obtain ⟨k6, h6, i6⟩ := hi 6 (by omega)
  obtain ⟨cl⟩ := cs
  simp only [Value.cells] at hl h0 h1 h2 h3 h4 h5 h6
  match cl, hl with
  | [c0, c1, c2, c3, c4, c5, c6], _ =>
    simp at h0 h1 h2 h3 h4 h5 h6
    subst h0 h1 h2 h3 h4 h5 h6
    exact ⟨⟨k0, k1, k2, k3, k4, k5, k6⟩, rfl, i0⟩
end
end Go.Proofs.Ytckehmjgimbepaa
