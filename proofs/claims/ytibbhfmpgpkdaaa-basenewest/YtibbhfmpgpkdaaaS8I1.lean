/- One more among rows of a database (slices.Insert). -/
import Derived.Test.YtibbhfmpgpkdaaaX8A
import Derived.Test.YtibbhfmpgpkdaaaOL
import Derived.Test.YtibbhfmpgpkdaaaOG
import Derived.Shelf.Spec.SlicesInsert
import Derived.Lib.AppendZerosOnto
import Derived.Laws.NewBlocks
import Derived.Deep.RegionLaw
namespace Go.Proofs.Ytibbhfmpgpkdaaa
open Go.RowKit Go.Lib

theorem info_lsa : (Try.prog.info? 39).map (fun i => (i.zero, i.size, i.bytes)) = some (some (.agg #[.int .i64 0, .int .i64 0, .int .i64 0, .int .i64 0, .int .i64 0, .int .i64 0, .int .i64 0, .int .i64 0, .slice none 0 0, .int .i64 0, .slice none 0 0, .slice none 0 0]), 12, 144) := by kernel_rfl
theorem rowC_one (r : Row) : ∀ u ∈ rowC r, u.oneCell' = true := by
  intro u hu
  simp [rowC] at hu
  rcases hu with rfl | rfl | rfl | rfl | rfl | rfl | rfl | rfl | rfl | rfl | rfl | rfl <;> rfl
theorem rows_one (L : List Row) : ∀ u ∈ cellsOf rowC L, u.oneCell' = true := by
  intro u hu
  obtain ⟨x, _, hx⟩ := List.mem_flatMap.1 hu
  exact rowC_one x u hx
theorem rows_len (L : List Row) : (cellsOf rowC L).length = L.length * 12 := cellsOf_length rowC 12 rowC_length L
/-- How Insert ends. -/
def InsEnd (w : World) (N : Nat) (v : Value) (M : List Row) (e : Ending) (w' : World) : Prop := ∃ lv, e = .returned lv ∧ w'.ownsRow N 39 12 lv M.length (cellsOf rowC M) ∧ w.grownBy w' v.ownBlock ∧ Hence w v lv
set_option maxHeartbeats 1600000 in
set_option maxRecDepth 100000 in
theorem ins_end (N : Nat) (a : Option Addr) (c : Nat) (L : List Row) (vb : Nat) (r : Row) (w : World) (hN : N ≤ w.heap.size) (hown : w.ownsRow N 39 12 (.slice a L.length c) L.length (cellsOf rowC L)) (hl : L.length ≤ 1000000000) (hv : Lies w (some ⟨vb, 0, none⟩) (rowC r)) :
    Calls Try.prog 39 #[.slice a L.length c, .int .i64 L.length, .slice (some ⟨vb, 0, none⟩) 1 1] w (InsEnd w N (.slice a L.length c) (L ++ [r])) := by
  obtain ⟨i, hi, hz0, hz1, hz2⟩ := info_parts info_lsa
  have HO : Hid (w.ownsRow N 39 12 (.slice a L.length c) L.length (cellsOf rowC L)) := hown
  have HV : Hid (Lies w (some ⟨vb, 0, none⟩) (rowC r)) := hv
  have hcc : (L.length : Int) ≤ (c : Int) := by
    rcases hown.2 with ⟨h1, h2⟩ | ⟨g, cap, cur, h1, _, _, h4, _⟩
    · simp only [Value.slice.injEq] at h1; omega
    · simp only [Value.slice.injEq] at h1; omega
  have hc63 : (c : Int) ≤ 9223372036854775807 := by
    rcases hown.2 with ⟨h1, h2⟩ | ⟨g, cap, cur, h1, _, _, _, h5, _⟩
    · simp only [Value.slice.injEq] at h1; omega
    · simp only [Value.slice.injEq] at h1; unfold maxLen at h5; omega
  clear hown hv
  have hT : Try.prog.underlying 53 = some (.slice 39) := Try.underlying53
  go_enter Try.func39, Try.ntmps39
  cases a with
  | none =>
    have hn0 : L.length = 0 ∧ c = 0 := by
      rcases HO.out.2 with ⟨h1, h2⟩ | ⟨g, cap, cur, h1, _⟩
      · simp only [Value.slice.injEq] at h1; exact ⟨h2, h1.2.2⟩
      · simp at h1
    obtain ⟨hn0, rfl⟩ := hn0
    obtain rfl := List.eq_nil_of_length_eq_zero hn0
    go_wp2_with (at_builtin; go_must (refine wpList_append_hence w rfl _ _ 53 rfl N 39 i _ 12 144 hT hi hz0 hz1 hz2 rfl (by decide) _ 0 _ rfl HO.out ⟨vb, 0, none⟩ 1 1 (rowC r) rfl rfl HV.out.at (rowC_one r) (by unfold maxLen; omega) (by omega) hN ?_))
    intro v' w' h1 h2 h3
    have H1 : Hid (w'.ownsRow N 39 12 v' (0 + 1) (cellsOf rowC [] ++ rowC r)) := h1
    have H2 : Hid (w.grownBy w' (Value.ownBlock (.slice none 0 0))) := h2
    have H3 : Hid (Hence w (.slice none 0 0) v') := h3
    clear h1 h2 h3
    go_wp2
    go_ret
    exact ⟨v', rfl, by simpa [cellsOf] using H1.out, H2.out, H3.out⟩
  | some ad =>
    obtain ⟨g, rfl⟩ : ∃ g, ad = ⟨g, 0, none⟩ := by
      rcases HO.out.2 with ⟨h1, h2⟩ | ⟨g, cap, cur, h1, _⟩
      · simp at h1
      · simp only [Value.slice.injEq, Option.some.injEq] at h1; exact ⟨g, h1.1⟩
    obtain ⟨ad, had⟩ : ∃ ad : Option Addr, (if c = L.length then some (⟨g, 0, none⟩ : Addr) else some ⟨g, L.length * 12, none⟩) = ad := ⟨_, rfl⟩
    go_wp2_with (at_builtin; go_must (refine wpList_append_hence w rfl _ _ 53 rfl N 39 i _ 12 144 hT hi hz0 hz1 hz2 rfl (by decide) _ L.length _ rfl HO.out ⟨vb, 0, none⟩ 1 1 (rowC r) rfl rfl HV.out.at (rowC_one r) (by unfold maxLen; omega) (by omega) hN ?_))
    all_goals
      intro v' w' h1 h2 h3
      have H1 : Hid (w'.ownsRow N 39 12 v' (L.length + 1) (cellsOf rowC L ++ rowC r)) := h1
      have H2 : Hid (w.grownBy w' (Value.ownBlock (.slice (some ⟨g, 0, none⟩) L.length c))) := h2
      have H3 : Hid (Hence w (.slice (some ⟨g, 0, none⟩) L.length c) v') := h3
      clear h1 h2 h3
      go_wp2
      go_ret
      exact ⟨v', rfl, by simpa [cellsOf] using H1.out, H2.out, H3.out⟩
end Go.Proofs.Ytibbhfmpgpkdaaa
