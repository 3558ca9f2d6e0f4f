/- Lists of advertisements that came in, opened. -/
import Derived.Test.YtoanjhccbmifmaaDoorOFr
import Derived.Test.YtoanjhccbmifmaaDoorS5MB
namespace Go.Proofs.YtoanjhccbmifmaaDoor
open Go.ChangeShapes Go.WideShapes Go.ChangeAt Go.RowKit

/-- What is said of a list of advertisements that came in. -/
structure CameL (w : World) (a : Option Addr) (L : List SL) : Prop where
  lies : Lies w a (cellsOf slC L)
  each : ∀ z ∈ L, Held w z.1 z.2 ∧ Nils z.1
section
variable {H : Type} {enc : TypeId × Value → H} {W : World} {base : Nat} {spare : Nat → Bool} {held : Bool}
set_option maxRecDepth 20000 in
theorem open_lsas {b0 : Nat} {v : Value} {d : DataW H} {ps : List MemPlace} (hv : Value.okWide Tryd.prog W .any b0 51 v) (h : DataW.Trod enc Tryd.prog W base spare held 51 v d ps) :
    ∃ (a : Option Addr) (cap : Nat) (L : List SL), v = .slice a L.length cap ∧ CameL W a L := by
  obtain ⟨a, len, cap, rfl⟩ := okWide_slice Tryd.underlying51 hv
  obtain ⟨fuel, hf⟩ := h
  obtain ⟨a', cap', l, h1, h2, _, _⟩ := open_list (α := { z : SL // Came W z.1 z.2 }) (fun z => slC z.1) 12 (fun _ => rfl) (by omega) Tryd.underlying51 cells_lsa (fun n cs y hy => by
    obtain ⟨s, l, e1, e2⟩ := open_lsaC hy
    exact ⟨⟨(s, l), e2⟩, e1⟩) hf
  simp [Value.cells] at h1
  obtain ⟨rfl, rfl, rfl⟩ := h1
  refine ⟨_, _, l.map (·.1), by rw [List.length_map], ?_, ?_⟩
  · have e : cellsOf slC (l.map (·.1)) = cellsOf (fun z : { z : SL // Came W z.1 z.2 } => slC z.1) l := by
      unfold cellsOf; rw [List.flatMap_map]
    rw [e]; exact h2
  · intro z hz
    obtain ⟨y, _, rfl⟩ := List.mem_map.1 hz
    exact ⟨y.2.held, y.2.nils⟩
end
end Go.Proofs.YtoanjhccbmifmaaDoor
