/- Whether two lists of Keys are the same, and two of advertisements, as the document asks it. -/
import Derived.Test.YtbogphhbjmapgaaD9C
import Derived.Test.YtbogphhbjmapgaaS5D5
namespace Go.Proofs.Ytbogphhbjmapgaa
open Go.RowKit
set_option linter.unusedVariables false

theorem OwnK.lies {w : World} {N : Nat} {v : Value} {D : List KeyZ} (h : OwnK w N v D) : ∃ a c, v = .slice a D.length c ∧ Lies w a (cellsOf keyC D) := by
  rcases h.2 with ⟨h1, h0⟩ | ⟨g, cap, cur, h1, _⟩
  · exact ⟨none, 0, by rw [h1, h0], .inl (cells_none keyC h0)⟩
  · have h' := h
    unfold OwnK at h'
    rw [h1] at h'
    exact ⟨some ⟨g, 0, none⟩, cap, h1, owns_lies h'⟩
theorem keyC_len (k : KeyZ) : (keyC k).length = 3 := rfl
theorem keys_cell {w : World} {a : Option Addr} {D : List KeyZ} (h : Lies w a (cellsOf keyC D)) (i : Nat) (hi : i < D.length) : ∃ b off, a = some ⟨b, off, none⟩ ∧ w.cell? ⟨b, off + i * 3, none⟩ = some (.int .i64 D[i].kind) ∧ w.cell? ⟨b, off + (i * 3 + 1), none⟩ = some (.int .i64 D[i].id) ∧ w.cell? ⟨b, off + (i * 3 + 2), none⟩ = some (.int .i64 D[i].adv) := by
  obtain ⟨b, off, e, hr⟩ := h.cell keyC 3 keyC_len (by rintro rfl; simp at hi) (by omega)
  have h0 := hr i 0 hi (by omega)
  have h1 := hr i 1 hi (by omega)
  have h2 := hr i 2 hi (by omega)
  exact ⟨b, off, e, h0, h1, h2⟩
set_option maxHeartbeats 3200000 in
theorem dkeys_any (a1 a2 : Option Addr) (c1 c2 : Nat) (D : List KeyZ) (w : World) (h1 : Lies w a1 (cellsOf keyC D)) (h2 : Lies w a2 (cellsOf keyC D)) (hl : D.length ≤ 1000000) :
    Calls Try.prog 15 #[.slice a1 D.length c1, .slice a2 D.length c2] w fun e w' => e = .returned (.bool true) ∧ Below w.heap.size w w' := by
  have HA : Hid (Lies w a1 (cellsOf keyC D)) := h1
  have HC : Hid (Lies w a2 (cellsOf keyC D)) := h2
  clear h1 h2
  go_enter Try.func15, Try.ntmps15
  go_wp2_with fail
  go_loopw [5] (fun t wr => ∃ i : Nat, i ≤ D.length ∧ t = .int .i64 (i : Int) ∧ Hid (Below w.heap.size w wr)) (fun t _ => D.length - (intOf t).toNat)
  case atStart => exact ⟨0, by omega, rfl, Below.refl _ _⟩
  case round =>
    obtain ⟨i, hi, rfl, HB⟩ := hrel
    by_cases hlt : i < D.length
    · have hiI : (i : Int) < (D.length : Int) := by omega
      obtain ⟨b1, o1, rfl, x0, x1, x2⟩ := keys_cell (HA.out.below HB.out) i hlt
      obtain ⟨b2, o2, rfl, y0, y1, y2⟩ := keys_cell (HC.out.below HB.out) i hlt
      generalize D[i] = k at *
      rw [← Nat.add_assoc] at x1 x2 y1 y2
      go_upto_region 6 with fail
      go_quiet (fail)
      have HB2 : Hid (Below w.heap.size w (wr.drewN nq)) := below_dr HB.out nq
      clear x0 x1 x2 y0 y1 y2
      go_wp2
      go_roundw
      case rel => exact ⟨i + 1, by omega, by go_num, HB2⟩
      case measure => simp [intOf]; omega
    · obtain rfl : i = D.length := by omega
      have hnl : ¬ ((D.length : Int) < (D.length : Int)) := by omega
      go_wp2
      go_ret
      exact ⟨rfl, HB.out⟩
end Go.Proofs.Ytbogphhbjmapgaa
