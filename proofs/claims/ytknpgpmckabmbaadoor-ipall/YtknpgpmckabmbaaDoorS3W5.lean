/- Put. -/
import Derived.Test.YtknpgpmckabmbaaDoorS3W4
import Derived.Test.YtknpgpmckabmbaaDoorOA
namespace Go.Proofs.YtknpgpmckabmbaaDoor
open Go.RowKit

theorem isFault.bad {v : Value} {k : Int} (h : isFault k v) (hk : k ≠ 0) : ∃ s : ByteArray, v = .iface 55 (.agg #[.string s, .iface 53 (.int .i64 k)]) := by
  rcases h with ⟨h, _⟩ | h
  · exact absurd h hk
  · exact h.2

set_option maxHeartbeats 800000 in
theorem put_bad (t p s d : Int) (a : Option Addr) (n cp : Nat) (w : World) (hE : Env w) (k : Int) (hk : putE t p s d n = k) (h0 : k ≠ 0) :
    Calls Tryd.prog 9 #[.agg #[.int .i64 t, .int .i64 p, .int .i64 s, .int .i64 d, .slice a n cp]] w fun e w' =>
      e = .returned (.tuple #[.slice none 0 0, .int .i64 k]) ∧ Below w.heap.size w w' := by
  have hb0 : Below w.heap.size w (w.alloc (.cells #[.int .i64 t, .int .i64 p, .int .i64 s, .int .i64 d, .slice a n cp] 24)) := (Below.refl _ _).alloc (Nat.le_refl _) _
  have HB0 : Hid (Below w.heap.size w (w.alloc (.cells #[.int .i64 t, .int .i64 p, .int .i64 s, .int .i64 d, .slice a n cp] 24))) := hb0
  have HE : Hid (Env w) := hE
  clear hb0 hE
  go_enter Tryd.func9, Tryd.ntmps9
  go_wp2_with fail
  refine (check_any t p s d a n cp _).mono ?_
  rintro e w1 ⟨⟨v, rfl, hv⟩, hb1⟩
  rw [hk] at hv
  obtain ⟨str, rfl⟩ := hv.bad h0
  have hb2 := below_more HB0.out hb1 (by simp)
  have HE1 : Hid (Env w1) := HE.out.below hb2 (Nat.le_refl _)
  have HB1 : Hid (Below w.heap.size w w1) := hb2
  clear hv hb1 hb2 HB0
  go_wp2_with fail
  refine (number_part str k w1 HE1.out).mono ?_
  rintro e w2 ⟨rfl, hb3⟩
  have HB2 : Hid (Below w.heap.size w w2) := below_more HB1.out hb3 HB1.out.size
  clear hb3
  go_wp2
  go_ret2
  exact ⟨rfl, HB2.out⟩

theorem keep_cells {W W' : World} {b N : Nat} {t p s d : Int} {v : Value} (h : W.cell? ⟨b, 0, none⟩ = some (.int .i64 t) ∧ W.cell? ⟨b, 1, none⟩ = some (.int .i64 p) ∧ W.cell? ⟨b, 2, none⟩ = some (.int .i64 s) ∧ W.cell? ⟨b, 3, none⟩ = some (.int .i64 d) ∧ W.cell? ⟨b, 4, none⟩ = some v) (hb : Below N W W') (hN : b < N) :
    W'.cell? ⟨b, 0, none⟩ = some (.int .i64 t) ∧ W'.cell? ⟨b, 1, none⟩ = some (.int .i64 p) ∧ W'.cell? ⟨b, 2, none⟩ = some (.int .i64 s) ∧ W'.cell? ⟨b, 3, none⟩ = some (.int .i64 d) ∧ W'.cell? ⟨b, 4, none⟩ = some v := by
  obtain ⟨h0, h1, h2, h3, h4⟩ := h
  exact ⟨by rw [hb.cell hN]; exact h0, by rw [hb.cell hN]; exact h1, by rw [hb.cell hN]; exact h2, by rw [hb.cell hN]; exact h3, by rw [hb.cell hN]; exact h4⟩

theorem grown_below {W W' : World} {N g cap : Nat} {zs : List Int} (ho : Owns W N g cap zs) (hg : W.grownBy W' (some g)) : Below N W W' :=
  (Below.refl _ _).grown hg ho.more (fun j hj => by cases hj; exact ho.lt.1)
set_option maxHeartbeats 1600000 in
theorem put_good (t p s d : Int) (a : Option Addr) (n cp : Nat) (xs : List Int) (w : World) (hm : n = xs.length) (hB : Bts w a xs) (hnil : a = none → cp = 0) (hk : putE t p s d n = 0) (hn : n ≤ 70368744177664) :
    Calls Tryd.prog 9 #[.agg #[.int .i64 t, .int .i64 p, .int .i64 s, .int .i64 d, .slice a n cp]] w fun e w' =>
      ∃ g cap, e = .returned (.tuple #[.slice (some ⟨g, 0, none⟩) (20 + n) cap, .int .i64 0]) ∧ Owns w' w.heap.size g cap (ipZ t p s d n ++ xs) ∧ Below w.heap.size w w' := by
  have hb0 : Below w.heap.size w (w.alloc (.cells #[.int .i64 t, .int .i64 p, .int .i64 s, .int .i64 d, .slice a n cp] 24)) := (Below.refl _ _).alloc (Nat.le_refl _) _
  have HB0 : Hid (Below w.heap.size w (w.alloc (.cells #[.int .i64 t, .int .i64 p, .int .i64 s, .int .i64 d, .slice a n cp] 24))) := hb0
  have hX := box_new w t p s d (.slice a n cp)
  have HX : Hid (Box _ w.heap.size t p s d (.slice a n cp)) := hX
  have HBt : Hid (Bts w a xs) := hB
  have HM : Hid (n = xs.length) := hm
  have HN : Hid (a = none → cp = 0) := hnil
  clear hb0 hX hB hm hnil
  go_enter Tryd.func9, Tryd.ntmps9
  go_wp2_with fail
  refine (check_any t p s d a n cp _).mono ?_
  rintro e w1 ⟨⟨v, rfl, hv⟩, hb1⟩
  rw [hk] at hv
  have hX1 := HX.out.below hb1 (by simp)
  have hB1 := below_more HB0.out hb1 (by simp)
  have hBt1 := HBt.out.below hB1
  clear hb1 HX HB0
  rcases hv with ⟨_, rfl⟩ | ⟨h, _⟩
  · obtain ⟨x0, x1, x2, x3, x4⟩ := hX1
    have hBd : Below w.heap.size w w1.drew := hB1.drew
    have hBtd : Bts w1.drew a xs := hBt1.below (Below.refl _ _).drew
    have hlt : w.heap.size < w1.drew.heap.size := by
      show w.heap.size < w1.heap.size
      rcases Nat.lt_or_ge w.heap.size w1.heap.size with h | h
      · exact h
      · simp [World.cell?, Array.getElem?_eq_none h] at x0
    go_wp2_with fail
    go_region_held3 (fun w' => w'.cell? ⟨w.heap.size, 0, none⟩ = some (.int .i64 t) ∧ w'.cell? ⟨w.heap.size, 1, none⟩ = some (.int .i64 p) ∧ w'.cell? ⟨w.heap.size, 2, none⟩ = some (.int .i64 s) ∧ w'.cell? ⟨w.heap.size, 3, none⟩ = some (.int .i64 d) ∧ w'.cell? ⟨w.heap.size, 4, none⟩ = some (.slice a n cp)) (first | exact keep_cells (by assumption) hk hlt | go_keep)
      (first | (go_at_call 17; refine (head_any t p s d a n cp _ hn).mono ?_; rintro e w' ⟨g, cap, rfl, ho, hk⟩; have hbt := hBtd.below hk) | ((refine step_append_bytes _ (by rfl) _ _ (by rfl) _ _ _ _ _ (by rfl) (by rfl) ho _ _ _ (by rfl) xs HM.out hbt HN.out (by have := HM.out; simp only [ipZ_length]; omega) ho.more ?_; intro g' cp' w2 ho2 hg; have hk0 := hk; have hk := grown_below ho hg)))
    rename_i hH
    have HR : Hid (Owns w2 w.heap.size g' cp' (ipZ t p s d n ++ xs) ∧ Below w.heap.size w w2) := ⟨ho2.base (Nat.le_of_lt hlt), (below_more hBd hk0 (Nat.le_of_lt hlt)).trans (hk.mono (Nat.le_of_lt hlt))⟩
    clear ho ho2 hk hk0 hH hbt hBt1 hB1 hBd hBtd hg
    go_wp2
    go_ret2
    exact ⟨_, _, rfl, HR.out⟩
  · exact absurd rfl h
end Go.Proofs.YtknpgpmckabmbaaDoor
