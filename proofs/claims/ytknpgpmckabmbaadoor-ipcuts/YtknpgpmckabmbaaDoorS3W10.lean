/- Get. -/
import Derived.Test.YtknpgpmckabmbaaDoorS3W9
namespace Go.Proofs.YtknpgpmckabmbaaDoor
open Go.RowKit

/-- How a call of Get ends. -/
def GetEnd (zs : List Int) (n : Nat) (e : Ending) (w' : World) : Prop :=
  (getE zs = 0 ∧ ∃ a' cp', e = .returned (.tuple #[.agg #[.int .i64 (getT zs), .int .i64 (getP zs), .int .i64 (getS zs), .int .i64 (getA zs), .slice a' (n - 20) cp'], .int .i64 0]) ∧ Bts w' a' (zs.drop 20) ∧ (a' = none → cp' = 0) ∧ n - 20 ≤ cp') ∨
  (getE zs ≠ 0 ∧ e = .returned (.tuple #[.agg #[.int .i64 0, .int .i64 0, .int .i64 0, .int .i64 0, .slice none 0 0], .int .i64 (getE zs)]))
theorem getE_short {zs : List Int} (h : zs.length < 20) : getE zs = 2 := by unfold getE; rw [if_pos h]
theorem getE_long {zs : List Int} (h : 1044 < zs.length) : getE zs = 3 := by unfold getE; rw [if_neg (by omega), if_pos h]
theorem read_any (a : Option Addr) (n cap : Nat) (zs : List Int) (w : World) (hm : n = zs.length) (hB : Bts w a zs) (hz : AreBytes zs) (hc : n ≤ cap) :
    Calls Tryd.prog 21 #[.slice a n cap] w fun e w' => ReadEnd w.heap.size zs n e w' ∧ Below w.heap.size w w' := by
  by_cases h1 : n < 20
  · refine (read_short a n cap w h1).mono ?_
    rintro e w' ⟨⟨v, rfl, hv⟩, hb⟩
    have e2 := getE_short (zs := zs) (by omega)
    exact ⟨.inr ⟨by rw [e2]; decide, v, rfl, by rw [e2]; exact hv⟩, hb⟩
  · obtain ⟨b, off, rfl, hcl⟩ := hB.resolve_left (by rintro rfl; simp at hm; omega)
    by_cases h2 : 1044 < n
    · refine (read_long b off n cap w h2 hc).mono ?_
      rintro e w' ⟨⟨v, rfl, hv⟩, hb⟩
      have e2 := getE_long (zs := zs) (by omega)
      exact ⟨.inr ⟨by rw [e2]; decide, v, rfl, by rw [e2]; exact hv⟩, hb⟩
    · exact read_main b off n cap zs w hm hB hz (by omega) (by omega) hc

/-- The box of another block stays as it is where five cells are stored. -/
theorem keep_far {W : World} {b g : Nat} {t p s d : Int} {v v0 v1 v2 v3 v4 : Value} (h : W.cell? ⟨b, 0, none⟩ = some (.int .i64 t) ∧ W.cell? ⟨b, 1, none⟩ = some (.int .i64 p) ∧ W.cell? ⟨b, 2, none⟩ = some (.int .i64 s) ∧ W.cell? ⟨b, 3, none⟩ = some (.int .i64 d) ∧ W.cell? ⟨b, 4, none⟩ = some v) (hne : g < b) :
    (((((W.setCell ⟨g, 0, none⟩ v0).setCell ⟨g, 1, none⟩ v1).setCell ⟨g, 2, none⟩ v2).setCell ⟨g, 3, none⟩ v3).setCell ⟨g, 4, none⟩ v4).cell? ⟨b, 0, none⟩ = some (.int .i64 t) ∧ (((((W.setCell ⟨g, 0, none⟩ v0).setCell ⟨g, 1, none⟩ v1).setCell ⟨g, 2, none⟩ v2).setCell ⟨g, 3, none⟩ v3).setCell ⟨g, 4, none⟩ v4).cell? ⟨b, 1, none⟩ = some (.int .i64 p) ∧ (((((W.setCell ⟨g, 0, none⟩ v0).setCell ⟨g, 1, none⟩ v1).setCell ⟨g, 2, none⟩ v2).setCell ⟨g, 3, none⟩ v3).setCell ⟨g, 4, none⟩ v4).cell? ⟨b, 2, none⟩ = some (.int .i64 s) ∧ (((((W.setCell ⟨g, 0, none⟩ v0).setCell ⟨g, 1, none⟩ v1).setCell ⟨g, 2, none⟩ v2).setCell ⟨g, 3, none⟩ v3).setCell ⟨g, 4, none⟩ v4).cell? ⟨b, 3, none⟩ = some (.int .i64 d) ∧ (((((W.setCell ⟨g, 0, none⟩ v0).setCell ⟨g, 1, none⟩ v1).setCell ⟨g, 2, none⟩ v2).setCell ⟨g, 3, none⟩ v3).setCell ⟨g, 4, none⟩ v4).cell? ⟨b, 4, none⟩ = some v := by
  have f : ∀ (X : World) (i j : Nat) (u : Value), (X.setCell ⟨g, i, none⟩ u).cell? ⟨b, j, none⟩ = X.cell? ⟨b, j, none⟩ := fun X i j u => World.cell?_setCell_other _ _ _ _ (by intro e; cases e; omega)
  simp only [f]; exact h

theorem read_form {N n : Nat} {zs : List Int} {e : Ending} {w' : World} (h : ReadEnd N zs n e w') :
    ∃ (t p s d : Int) (va : Option Addr) (vn vc : Nat) (v : Value), e = .returned (.tuple #[.agg #[.int .i64 t, .int .i64 p, .int .i64 s, .int .i64 d, .slice va vn vc], v]) ∧ isFault (getE zs) v ∧ (∀ ad, va = some ad → N ≤ ad.block) ∧
      ((getE zs = 0 ∧ t = getT zs ∧ p = getP zs ∧ s = getS zs ∧ d = getA zs ∧ vn = n - 20 ∧ Bts w' va (zs.drop 20) ∧ (va = none → vc = 0) ∧ n - 20 ≤ vc) ∨ (getE zs ≠ 0 ∧ t = 0 ∧ p = 0 ∧ s = 0 ∧ d = 0 ∧ va = none ∧ vn = 0 ∧ vc = 0)) := by
  rcases h with ⟨h0, a', cp', rfl, h1, h2, h3, h4⟩ | ⟨h0, v, rfl, hv⟩
  · exact ⟨_, _, _, _, a', _, cp', _, rfl, .inl ⟨h0, rfl⟩, h4, .inl ⟨h0, rfl, rfl, rfl, rfl, rfl, h1, h2, h3⟩⟩
  · exact ⟨0, 0, 0, 0, none, 0, 0, v, rfl, hv, (fun _ h => by cases h), .inr ⟨h0, rfl, rfl, rfl, rfl, rfl, rfl, rfl⟩⟩
theorem number_fault {k : Int} {v : Value} (h : isFault k v) (w : World) (hE : Env w) : Calls Tryd.prog 16 #[v] w fun e w' => e = .returned (.int .i64 k) ∧ Below w.heap.size w w' := by
  rcases h with ⟨rfl, rfl⟩ | ⟨_, s, rfl⟩
  · exact number_nil w
  · exact number_part s k w hE
theorem get_end {n : Nat} {zs : List Int} {w1 w' : World} {t p s d : Int} {va : Option Addr} {vn vc : Nat} (hb : Bts w1 va (zs.drop 20) → Bts w' va (zs.drop 20))
    (h : (getE zs = 0 ∧ t = getT zs ∧ p = getP zs ∧ s = getS zs ∧ d = getA zs ∧ vn = n - 20 ∧ Bts w1 va (zs.drop 20) ∧ (va = none → vc = 0) ∧ n - 20 ≤ vc) ∨ (getE zs ≠ 0 ∧ t = 0 ∧ p = 0 ∧ s = 0 ∧ d = 0 ∧ va = none ∧ vn = 0 ∧ vc = 0)) :
    GetEnd zs n (.returned (.tuple #[.agg #[.int .i64 t, .int .i64 p, .int .i64 s, .int .i64 d, .slice va vn vc], .int .i64 (getE zs)])) w' := by
  rcases h with ⟨h0, rfl, rfl, rfl, rfl, rfl, h1, h2, h3⟩ | ⟨h0, rfl, rfl, rfl, rfl, rfl, rfl, rfl⟩
  · exact .inl ⟨h0, va, vc, by rw [h0], hb h1, h2, h3⟩
  · exact .inr ⟨h0, rfl⟩

set_option maxHeartbeats 3200000 in
theorem get_any (a : Option Addr) (n cap : Nat) (zs : List Int) (w : World) (hm : n = zs.length) (hB : Bts w a zs) (hz : AreBytes zs) (hc : n ≤ cap) (hE : Env w) :
    Calls Tryd.prog 11 #[.slice a n cap] w fun e w' => GetEnd zs n e w' ∧ Below w.heap.size w w' := by
  have hb0 : Below w.heap.size w (w.alloc (.cells #[.int .i64 0, .int .i64 0, .int .i64 0, .int .i64 0, .slice none 0 0] 24)) := (Below.refl _ _).alloc (Nat.le_refl _) _
  have hread := read_any a n cap zs (w.alloc (.cells #[.int .i64 0, .int .i64 0, .int .i64 0, .int .i64 0, .slice none 0 0] 24)) hm (hB.below hb0) hz hc
  have hX := box_new w 0 0 0 0 (.slice none 0 0)
  have HX : Hid (Box (w.alloc (.cells #[.int .i64 0, .int .i64 0, .int .i64 0, .int .i64 0, .slice none 0 0] 24)) w.heap.size 0 0 0 0 (.slice none 0 0)) := hX
  have HB0 : Hid (Below w.heap.size w (w.alloc (.cells #[.int .i64 0, .int .i64 0, .int .i64 0, .int .i64 0, .slice none 0 0] 24))) := hb0
  have HE : Hid (Env w) := hE
  clear hX hb0 hE hm hB hz hc
  go_enter Tryd.func11, Tryd.ntmps11
  go_wp2_with fail
  refine hread.mono ?_
  rintro e w1 ⟨hr, hb1⟩
  obtain ⟨t, p, s, d, va, vn, vc, v, rfl, hv, hfar, hend⟩ := read_form hr
  clear hread hr
  have hX1 : Box w1 w.heap.size 0 0 0 0 (.slice none 0 0) := HX.out.below hb1 (by simp)
  have hw1 : Below w.heap.size w w1 := HB0.out.trans (hb1.mono (by simp))
  have hF1 : ∀ i, w1.frozen? ⟨w.heap.size, i, none⟩ = false := fun i => by rw [hb1.frozen (p := ⟨w.heap.size, i, none⟩) (by simp)]; simp
  have hfar1 : ∀ ad, va = some ad → w.heap.size < ad.block := fun ad h => by have := hfar ad h; simp at this; omega
  have HFAR : Hid (∀ ad, va = some ad → w.heap.size < ad.block) := hfar1
  have HEND : Hid ((getE zs = 0 ∧ t = getT zs ∧ p = getP zs ∧ s = getS zs ∧ d = getA zs ∧ vn = n - 20 ∧ Bts w1 va (zs.drop 20) ∧ (va = none → vc = 0) ∧ n - 20 ≤ vc) ∨ (getE zs ≠ 0 ∧ t = 0 ∧ p = 0 ∧ s = 0 ∧ d = 0 ∧ va = none ∧ vn = 0 ∧ vc = 0)) := hend
  have HV : Hid (isFault (getE zs) v) := hv
  have HW1 : Hid (Below w.heap.size w w1) := hw1
  clear hfar hfar1 hend hv hb1 hw1 HX HB0
  go_upto_region 2 with fail
  have hs1 : w.heap.size < w1.heap.size := hX1.lt
  have hWa : Below w1.heap.size w1 (w1.alloc (.cells #[.int .i64 t, .int .i64 p, .int .i64 s, .int .i64 d, .slice va vn vc] 24)) := (Below.refl _ _).alloc (Nat.le_refl _) _
  have hX4 := box_new w1 t p s d (.slice va vn vc)
  have hX2 := hX1.below hWa hs1
  have hF2 : ∀ i, (w1.alloc (.cells #[.int .i64 t, .int .i64 p, .int .i64 s, .int .i64 d, .slice va vn vc] 24)).frozen? ⟨w.heap.size, i, none⟩ = false := fun i => by rw [hWa.frozen (p := ⟨w.heap.size, i, none⟩) hs1]; exact hF1 i
  have hsz : (w1.alloc (.cells #[.int .i64 t, .int .i64 p, .int .i64 s, .int .i64 d, .slice va vn vc] 24)).drew.heap.size = w1.heap.size + 1 := by show (w1.alloc _).heap.size = _; simp
  generalize w1.alloc (.cells #[.int .i64 t, .int .i64 p, .int .i64 s, .int .i64 d, .slice va vn vc] 24) = W at *
  have hWd : Below w1.heap.size w1 W.drew := hWa.drew
  have hnum := number_fault HV.out W.drew (HE.out.below (HW1.out.trans (hWd.mono HW1.out.size)) (Nat.le_refl _))
  obtain ⟨x0, x1, x2, x3, x4⟩ := hX4
  obtain ⟨y0, y1, y2, y3, y4⟩ := hX2
  have lt4 : w1.heap.size < W.drew.heap.size := by omega
  have hS0 : W.drew.cell? ⟨w1.heap.size, 0, none⟩ = some (.int .i64 t) ∧ W.drew.cell? ⟨w1.heap.size, 1, none⟩ = some (.int .i64 p) ∧ W.drew.cell? ⟨w1.heap.size, 2, none⟩ = some (.int .i64 s) ∧ W.drew.cell? ⟨w1.heap.size, 3, none⟩ = some (.int .i64 d) ∧ W.drew.cell? ⟨w1.heap.size, 4, none⟩ = some (.slice va vn vc) := ⟨x0, x1, x2, x3, x4⟩
  clear hWa hX1 hF1
  go_region_held3 (fun w' => w'.cell? ⟨w1.heap.size, 0, none⟩ = some (.int .i64 t) ∧ w'.cell? ⟨w1.heap.size, 1, none⟩ = some (.int .i64 p) ∧ w'.cell? ⟨w1.heap.size, 2, none⟩ = some (.int .i64 s) ∧ w'.cell? ⟨w1.heap.size, 3, none⟩ = some (.int .i64 d) ∧ w'.cell? ⟨w1.heap.size, 4, none⟩ = some (.slice va vn vc)) (with_reducible first | exact hS0 | (refine keep_cells ?_ hk lt4; assumption) | (refine keep_far ?_ hs1; assumption) | fail)
    (first | (go_at_call 16; refine hnum.mono ?_; rintro e w' ⟨rfl, hk⟩; have hcl := fun (q : Addr) (h : q.block < W.drew.heap.size) => hk.cell (p := q) h; have hfr := fun (q : Addr) (h : q.block < W.drew.heap.size) => hk.frozen (p := q) h; have l2 : w.heap.size < W.drew.heap.size := Nat.lt_trans hs1 lt4))
  rename_i hH
  have hV := box_set (t := t) (p := p) (s := s) (d := d) (v := .slice va vn vc) ((hk.cell (p := ⟨w.heap.size, 0, none⟩) l2).trans y0) ((hk.cell (p := ⟨w.heap.size, 1, none⟩) l2).trans y1) ((hk.cell (p := ⟨w.heap.size, 2, none⟩) l2).trans y2) ((hk.cell (p := ⟨w.heap.size, 3, none⟩) l2).trans y3) ((hk.cell (p := ⟨w.heap.size, 4, none⟩) l2).trans y4)
  have hw' : Below w1.heap.size w1 w' := hWd.trans (hk.mono hWd.size)
  have hK : Below w.heap.size w (((((w'.setCell ⟨w.heap.size, 0, none⟩ (.int .i64 t)).setCell ⟨w.heap.size, 1, none⟩ (.int .i64 p)).setCell ⟨w.heap.size, 2, none⟩ (.int .i64 s)).setCell ⟨w.heap.size, 3, none⟩ (.int .i64 d)).setCell ⟨w.heap.size, 4, none⟩ (.slice va vn vc)) := store5_below (HW1.out.trans (hw'.mono HW1.out.size)).drew (Nat.le_refl _)
  have hA : Bts w1 va (zs.drop 20) → Bts (((((w'.setCell ⟨w.heap.size, 0, none⟩ (.int .i64 t)).setCell ⟨w.heap.size, 1, none⟩ (.int .i64 p)).setCell ⟨w.heap.size, 2, none⟩ (.int .i64 s)).setCell ⟨w.heap.size, 3, none⟩ (.int .i64 d)).setCell ⟨w.heap.size, 4, none⟩ (.slice va vn vc)) va (zs.drop 20) := fun h => bts_set (bts_set (bts_set (bts_set (bts_set (h.below hw') HFAR.out) HFAR.out) HFAR.out) HFAR.out) HFAR.out
  clear hH hS0 hk hw'
  generalize (((((w'.setCell ⟨w.heap.size, 0, none⟩ (.int .i64 t)).setCell ⟨w.heap.size, 1, none⟩ (.int .i64 p)).setCell ⟨w.heap.size, 2, none⟩ (.int .i64 s)).setCell ⟨w.heap.size, 3, none⟩ (.int .i64 d)).setCell ⟨w.heap.size, 4, none⟩ (.slice va vn vc)) = V at *
  have HK : Hid (Below w.heap.size w V) := hK
  have HA : Hid (Bts w1 va (zs.drop 20) → Bts V va (zs.drop 20)) := hA
  obtain ⟨v0, v1, v2, v3, v4⟩ := hV
  clear hK hA x0 x1 x2 x3 x4 y0 y1 y2 y3 y4 hnum hWd
  go_wp2
  (try simp only [Exit.inBlock, Exit.then])
  refine bodyPost_ret (by simp [results, Tryd.results11, go_sem, v0, v1, v2, v3, v4]; try rfl) rfl ?_
  exact ⟨get_end HA.out HEND.out, HK.out⟩
end Go.Proofs.YtknpgpmckabmbaaDoor
