/- A message that came in, opened. -/
import Derived.Test.YtnnmaelnkoihjaaBFr
namespace Go.Proofs.Ytnnmaelnkoihjaa
open Go.ChangeShapes Go.WideShapes Go.ChangeAt Go.RowKit

theorem array3 {α : Type} {cs : Array α} (h : cs.size = 3) : ∃ c0 c1 c2, cs = #[c0, c1, c2] := by
  obtain ⟨l⟩ := cs
  match l, h with
  | [c0, c1, c2], _ => exact ⟨c0, c1, c2, rfl⟩
theorem cells_int : Try.prog.cellsOf 3 = 1 := by kernel_rfl
theorem cells_msg : Try.prog.cellsOf 23 = 3 := by kernel_rfl
theorem fields_msg : ∃ fs : Array Field, Try.prog.underlying 23 = some (.struct fs) ∧ (fs[0]?).map (fun f => (f.type, f.offset)) = some (3, 0) ∧ (fs[1]?).map (fun f => (f.type, f.offset)) = some (3, 1) ∧ (fs[2]?).map (fun f => (f.type, f.offset)) = some (3, 2) ∧ fs.size = 3 :=
  ⟨_, Try.underlying23, rfl, rfl, rfl, rfl⟩
theorem field_at {fs : Array Field} {i ty off : Nat} (h : (fs[i]?).map (fun f => (f.type, f.offset)) = some (ty, off)) : ∃ f, fs[i]? = some f ∧ f.type = ty ∧ f.offset = off := by
  obtain ⟨f, hf, e⟩ := Option.map_eq_some_iff.1 h
  simp only [Prod.mk.injEq] at e
  exact ⟨f, hf, e.1, e.2⟩
theorem open_msg {H : Type} {enc : TypeId × Value → H} {W : World} {b0 base : Nat} {spare : Nat → Bool} {held : Bool} {v : Value} {d : DataW H} {ps : List MemPlace} (hv : Value.okWide Try.prog W .any b0 23 v)
    (h : DataW.Trod enc Try.prog W base spare held 23 v d ps) :
    ∃ k t g : Int, v = .agg #[.int .i64 k, .int .i64 t, .int .i64 g] := by
  obtain ⟨fs, hs, g0, g1, g2, hsz⟩ := fields_msg
  obtain ⟨cs, rfl, hcs⟩ := okWide_struct hs hv
  obtain ⟨c0, c1, c2, rfl⟩ := array3 (hcs.trans cells_msg)
  obtain ⟨fuel, hf⟩ := h
  obtain ⟨xs, n, _, hx, _, hlen, hall⟩ := DataW.trod_struct hs hf
  obtain ⟨f0, k0, t0, o0⟩ := field_at g0
  obtain ⟨f1, k1, t1, o1⟩ := field_at g1
  obtain ⟨f2, k2, t2, o2⟩ := field_at g2
  have hl3 : xs.length = 3 := by rw [hlen, hsz]
  have e0 := hall 0 f0 k0
  have e1 := hall 1 f1 k1
  have e2 := hall 2 f2 k2
  rw [t0, o0, cells_int] at e0
  rw [t1, o1, cells_int] at e1
  rw [t2, o2, cells_int] at e2
  rw [List.getElem?_eq_getElem (by omega)] at e0 e1 e2
  obtain ⟨n0, h0, _⟩ := DataW.trod_int Try.underlying3 e0
  obtain ⟨n1, h1, _⟩ := DataW.trod_int Try.underlying3 e1
  obtain ⟨n2, h2, _⟩ := DataW.trod_int Try.underlying3 e2
  simp [Value.cells] at h0 h1 h2
  subst h0 h1 h2
  exact ⟨n0, n1, n2, rfl⟩
end Go.Proofs.Ytnnmaelnkoihjaa
