/- Lists of advertisements that came in, opened as rows. -/
import Derived.Test.YtbogphhbjmapgaaY9H
namespace Go.Proofs.Ytbogphhbjmapgaa
open Go.ChangeShapes Go.WideShapes Go.ChangeAt Go.RowKit

section
variable {H : Type} {enc : TypeId × Value → H} {W : World} {base : Nat} {spare : Nat → Bool} {held : Bool}
set_option maxRecDepth 20000 in
theorem open_rows {b0 : Nat} {v : Value} {d : DataW H} {ps : List MemPlace} (hv : Value.okWide Try.prog W .any b0 22 v) (h : DataW.Trod enc Try.prog W base spare held 22 v d ps) :
    ∃ (a : Option Addr) (cap : Nat) (L : List Row), v = .slice a L.length cap ∧ Lies W a (cellsOf rowC L) ∧ (∀ r ∈ L, Held W r.1 r.2 ∧ Nils r.1) ∧ L.length ≤ maxLen := by
  obtain ⟨a, len, cap, rfl⟩ := okWide_slice Try.underlying22 hv
  obtain ⟨fuel, hf⟩ := h
  obtain ⟨a', cap', l, h1, h2, _, h4⟩ := open_list (α := { z : Row // Came W z.1 z.2 }) (fun z => rowC z.1) 12 (fun _ => rfl) (by omega) Try.underlying22 cells_lsa (fun n cs y hy => by
    obtain ⟨s, l, e1, e2⟩ := open_lsaC hy
    exact ⟨⟨(s, l), e2⟩, e1⟩) hf
  simp [Value.cells] at h1
  obtain ⟨rfl, rfl, rfl⟩ := h1
  refine ⟨_, _, l.map (·.1), by rw [List.length_map], ?_, ?_, by rw [List.length_map]; exact h4⟩
  · have e : cellsOf rowC (l.map (·.1)) = cellsOf (fun z : { z : Row // Came W z.1 z.2 } => rowC z.1) l := by
      unfold cellsOf; rw [List.flatMap_map]
    rw [e]; exact h2
  · intro z hz
    obtain ⟨y, _, rfl⟩ := List.mem_map.1 hz
    exact ⟨y.2.held, y.2.nils⟩
end
end Go.Proofs.Ytbogphhbjmapgaa
