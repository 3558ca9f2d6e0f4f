/- Variables of several cells that can be written. -/
import Derived.Test.YtgljblnegiadlaaOC
namespace Go.Proofs.Ytgljblnegiadlaa
open Go.RowKit

/-- The block b is a variable that holds the cells vs. -/
def Var (w : World) (b : Nat) (vs : List Value) : Prop := ∃ t, w.heap[b]? = some (.cells vs.toArray t (0, 0))
theorem Var.lt {w : World} {b : Nat} {vs : List Value} (h : Var w b vs) : b < w.heap.size := by
  obtain ⟨t, h⟩ := h; exact (Array.getElem?_eq_some_iff.1 h).1
theorem Var.cell {w : World} {b : Nat} {vs : List Value} (h : Var w b vs) (i : Nat) {v : Value} (hv : vs[i]? = some v) : w.cell? ⟨b, i, none⟩ = some v := by
  obtain ⟨t, h⟩ := h
  simp [World.cell?, h, hv]
theorem Var.frozen {w : World} {b : Nat} {vs : List Value} (h : Var w b vs) (i : Nat) : w.frozen? ⟨b, i, none⟩ = false := by
  obtain ⟨t, h⟩ := h
  simp [World.frozen?, h]
theorem Var.below {w w' : World} {b N : Nat} {vs : List Value} (h : Var w b vs) (hb : Below N w w') (hN : b < N) : Var w' b vs := by
  obtain ⟨t, h⟩ := h
  exact ⟨t, by rw [hb.block _ hN]; exact h⟩
theorem var_new (w : World) (vs : List Value) (t : TypeId) : Var (w.alloc (.cells vs.toArray t)) w.heap.size vs := ⟨t, heap_alloc_new w _⟩
theorem Var.alloc {w : World} {b : Nat} {vs : List Value} (h : Var w b vs) (o : Obj) : Var (w.alloc o) b vs := by
  have hl := h.lt
  obtain ⟨t, h⟩ := h
  exact ⟨t, by rw [heap_alloc_old w o hl]; exact h⟩
theorem Var.set {w : World} {b : Nat} {vs : List Value} (h : Var w b vs) (i : Nat) (v : Value) : Var (w.setCell ⟨b, i, none⟩ v) b (vs.set i v) := by
  obtain ⟨t, h⟩ := h
  refine ⟨t, ?_⟩
  simp [World.setCell, Array.getElem?_modify, h]
theorem Var.other {w : World} {b b' : Nat} {vs : List Value} (h : Var w b vs) (hne : b' ≠ b) (i : Nat) (v : Value) : Var (w.setCell ⟨b', i, none⟩ v) b vs := by
  obtain ⟨t, h⟩ := h
  refine ⟨t, ?_⟩
  simp [World.setCell, Array.getElem?_modify, h, hne]
theorem Var.drew {w : World} {b : Nat} {vs : List Value} (h : Var w b vs) : Var w.drew b vs := h
theorem Var.put7 {w : World} {b : Nat} {a0 a1 a2 a3 a4 a5 a6 : Value} (h : Var w b [a0, a1, a2, a3, a4, a5, a6]) (v0 v1 v2 v3 v4 v5 v6 : Value) : Var (((((((w.setCell ⟨b, 0, none⟩ v0).setCell ⟨b, 1, none⟩ v1).setCell ⟨b, 2, none⟩ v2).setCell ⟨b, 3, none⟩ v3).setCell ⟨b, 4, none⟩ v4).setCell ⟨b, 5, none⟩ v5).setCell ⟨b, 6, none⟩ v6) b [v0, v1, v2, v3, v4, v5, v6] :=
  h |>.set 0 v0 |>.set 1 v1 |>.set 2 v2 |>.set 3 v3 |>.set 4 v4 |>.set 5 v5 |>.set 6 v6
theorem below_put7 {w0 w : World} {N b : Nat} (h : Below N w0 w) (hb : N ≤ b) (v0 v1 v2 v3 v4 v5 v6 : Value) : Below N w0 (((((((w.setCell ⟨b, 0, none⟩ v0).setCell ⟨b, 1, none⟩ v1).setCell ⟨b, 2, none⟩ v2).setCell ⟨b, 3, none⟩ v3).setCell ⟨b, 4, none⟩ v4).setCell ⟨b, 5, none⟩ v5).setCell ⟨b, 6, none⟩ v6) := by
  have hx : ∀ i, N ≤ (⟨b, i, none⟩ : Addr).block := fun _ => hb
  exact h |>.setCell (hx 0) v0 |>.setCell (hx 1) v1 |>.setCell (hx 2) v2 |>.setCell (hx 3) v3 |>.setCell (hx 4) v4 |>.setCell (hx 5) v5 |>.setCell (hx 6) v6
theorem Var.put7' {w : World} {b b' : Nat} {vs : List Value} (h : Var w b vs) (hne : b' ≠ b) (v0 v1 v2 v3 v4 v5 v6 : Value) : Var (((((((w.setCell ⟨b', 0, none⟩ v0).setCell ⟨b', 1, none⟩ v1).setCell ⟨b', 2, none⟩ v2).setCell ⟨b', 3, none⟩ v3).setCell ⟨b', 4, none⟩ v4).setCell ⟨b', 5, none⟩ v5).setCell ⟨b', 6, none⟩ v6) b vs :=
  h |>.other hne 0 v0 |>.other hne 1 v1 |>.other hne 2 v2 |>.other hne 3 v3 |>.other hne 4 v4 |>.other hne 5 v5 |>.other hne 6 v6
theorem Var.put12 {w : World} {b : Nat} {a0 a1 a2 a3 a4 a5 a6 a7 a8 a9 a10 a11 : Value} (h : Var w b [a0, a1, a2, a3, a4, a5, a6, a7, a8, a9, a10, a11]) (v0 v1 v2 v3 v4 v5 v6 v7 v8 v9 v10 v11 : Value) : Var ((((((((((((w.setCell ⟨b, 0, none⟩ v0).setCell ⟨b, 1, none⟩ v1).setCell ⟨b, 2, none⟩ v2).setCell ⟨b, 3, none⟩ v3).setCell ⟨b, 4, none⟩ v4).setCell ⟨b, 5, none⟩ v5).setCell ⟨b, 6, none⟩ v6).setCell ⟨b, 7, none⟩ v7).setCell ⟨b, 8, none⟩ v8).setCell ⟨b, 9, none⟩ v9).setCell ⟨b, 10, none⟩ v10).setCell ⟨b, 11, none⟩ v11) b [v0, v1, v2, v3, v4, v5, v6, v7, v8, v9, v10, v11] :=
  h |>.set 0 v0 |>.set 1 v1 |>.set 2 v2 |>.set 3 v3 |>.set 4 v4 |>.set 5 v5 |>.set 6 v6 |>.set 7 v7 |>.set 8 v8 |>.set 9 v9 |>.set 10 v10 |>.set 11 v11
theorem below_put12 {w0 w : World} {N b : Nat} (h : Below N w0 w) (hb : N ≤ b) (v0 v1 v2 v3 v4 v5 v6 v7 v8 v9 v10 v11 : Value) : Below N w0 ((((((((((((w.setCell ⟨b, 0, none⟩ v0).setCell ⟨b, 1, none⟩ v1).setCell ⟨b, 2, none⟩ v2).setCell ⟨b, 3, none⟩ v3).setCell ⟨b, 4, none⟩ v4).setCell ⟨b, 5, none⟩ v5).setCell ⟨b, 6, none⟩ v6).setCell ⟨b, 7, none⟩ v7).setCell ⟨b, 8, none⟩ v8).setCell ⟨b, 9, none⟩ v9).setCell ⟨b, 10, none⟩ v10).setCell ⟨b, 11, none⟩ v11) := by
  have hx : ∀ i, N ≤ (⟨b, i, none⟩ : Addr).block := fun _ => hb
  exact h |>.setCell (hx 0) v0 |>.setCell (hx 1) v1 |>.setCell (hx 2) v2 |>.setCell (hx 3) v3 |>.setCell (hx 4) v4 |>.setCell (hx 5) v5 |>.setCell (hx 6) v6 |>.setCell (hx 7) v7 |>.setCell (hx 8) v8 |>.setCell (hx 9) v9 |>.setCell (hx 10) v10 |>.setCell (hx 11) v11
theorem Var.put12' {w : World} {b b' : Nat} {vs : List Value} (h : Var w b vs) (hne : b' ≠ b) (v0 v1 v2 v3 v4 v5 v6 v7 v8 v9 v10 v11 : Value) : Var ((((((((((((w.setCell ⟨b', 0, none⟩ v0).setCell ⟨b', 1, none⟩ v1).setCell ⟨b', 2, none⟩ v2).setCell ⟨b', 3, none⟩ v3).setCell ⟨b', 4, none⟩ v4).setCell ⟨b', 5, none⟩ v5).setCell ⟨b', 6, none⟩ v6).setCell ⟨b', 7, none⟩ v7).setCell ⟨b', 8, none⟩ v8).setCell ⟨b', 9, none⟩ v9).setCell ⟨b', 10, none⟩ v10).setCell ⟨b', 11, none⟩ v11) b vs :=
  h |>.other hne 0 v0 |>.other hne 1 v1 |>.other hne 2 v2 |>.other hne 3 v3 |>.other hne 4 v4 |>.other hne 5 v5 |>.other hne 6 v6 |>.other hne 7 v7 |>.other hne 8 v8 |>.other hne 9 v9 |>.other hne 10 v10 |>.other hne 11 v11
end Go.Proofs.Ytgljblnegiadlaa
