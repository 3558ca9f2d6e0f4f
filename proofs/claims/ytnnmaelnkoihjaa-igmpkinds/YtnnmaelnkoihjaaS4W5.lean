/- Get. -/
import Derived.Test.YtnnmaelnkoihjaaS4W4
import Derived.Test.YtnnmaelnkoihjaaS4W8
import Derived.Deep.CutRange
import Derived.Handy
namespace Go.Proofs.Ytnnmaelnkoihjaa
open Go.RowKit

theorem Bts.cells {w : World} {b off : Nat} {zs : List Int} (h : Bts w (some ⟨b, off, none⟩) zs) : ∀ i, i < zs.length → w.cell? ⟨b, off + i, none⟩ = some (.int .u8 (zs.getD i 0)) := by
  intro i hi
  rcases h with h | ⟨b', off', e, hc⟩
  · subst h; simp at hi
  · cases e; exact hc i hi
theorem below_two_new (w : World) (o o' : Obj) : Below w.heap.size w ((w.alloc o).alloc o') := ((Below.refl _ _).alloc (Nat.le_refl _) _).alloc (by simp) _
theorem cell_ne (W : World) {g i j : Nat} {v : Value} (h : i ≠ j) : (W.setCell ⟨g, i, none⟩ v).cell? ⟨g, j, none⟩ = W.cell? ⟨g, j, none⟩ := World.cell?_setCell_other _ _ _ _ (by intro e; cases e; exact h rfl)
theorem cell_eq {W : World} {p : Addr} {u v : Value} (h : W.cell? p = some u) : (W.setCell p v).cell? p = some v := World.cell?_setCell_same _ _ _ h
theorem msg_set {W : World} {b : Nat} {k t g k' t' g' : Int} (h : Msg W b k' t' g') : Msg (((W.setCell ⟨b, 0, none⟩ (.int .i64 k)).setCell ⟨b, 1, none⟩ (.int .i64 t)).setCell ⟨b, 2, none⟩ (.int .i64 g)) b k t g := by
  obtain ⟨h0, h1, h2⟩ := h
  constructor
  · rw [cell_ne _ (by decide), cell_ne _ (by decide), cell_eq h0]
  · rw [cell_ne _ (by decide), cell_eq (u := .int .i64 t') (by rw [cell_ne _ (by decide)]; exact h1)]
  · rw [cell_eq (u := .int .i64 g') (by rw [cell_ne _ (by decide), cell_ne _ (by decide)]; exact h2)]
theorem store3_below {w W : World} {v0 v1 v2 : Value} {g : Nat} (h : Below w.heap.size w W) (hg : w.heap.size ≤ g) :
    Below w.heap.size w (((W.setCell ⟨g, 0, none⟩ v0).setCell ⟨g, 1, none⟩ v1).setCell ⟨g, 2, none⟩ v2) :=
  ((h.setCell (p := ⟨g, 0, none⟩) hg _).setCell (p := ⟨g, 1, none⟩) hg _).setCell (p := ⟨g, 2, none⟩) hg _

/-- The message that Get tells. -/
def gotK (zs : List Int) : Int := if getE4 zs = 0 then kindZ (zs.getD 0 0) else 0
def gotT (zs : List Int) : Int := if getE4 zs = 0 then zs.getD 1 0 else 0
def gotG (zs : List Int) : Int := if getE4 zs = 0 then grpZ zs else 0
def GotEnd (zs : List Int) : Ending := .returned (.tuple #[.agg #[.int .i64 (gotK zs), .int .i64 (gotT zs), .int .i64 (gotG zs)], .int .i64 (getE4 zs)])
theorem got_bad {zs : List Int} {k : Int} (h : getE4 zs = k) (h0 : k ≠ 0) : Ending.returned (.tuple #[.agg #[.int .i64 0, .int .i64 0, .int .i64 0], .int .i64 k]) = GotEnd zs := by
  unfold GotEnd gotK gotT gotG; rw [h]; simp [h0]
theorem got_ok {zs : List Int} (h : getE4 zs = 0) : Ending.returned (.tuple #[.agg #[.int .i64 (kindZ (zs.getD 0 0)), .int .i64 (zs.getD 1 0), .int .i64 (grpZ zs)], .int .i64 0]) = GotEnd zs := by
  unfold GotEnd gotK gotT gotG; rw [h]; simp
theorem getE4_short {zs : List Int} (h : zs.length < 8) : getE4 zs = 2 := by unfold getE4; rw [if_pos h]
theorem getE4_long {zs : List Int} (h : 8 < zs.length) : getE4 zs = 3 := by unfold getE4; rw [if_neg (by omega), if_pos h]
theorem getE4_sum {zs : List Int} (h : zs.length = 8) (h' : zs ≠ wantZ4 zs) : getE4 zs = 4 := by unfold getE4; rw [if_neg (by omega), if_neg (by omega), if_neg h']
theorem getE4_put {zs : List Int} (h : zs.length = 8) (h' : zs = wantZ4 zs) : getE4 zs = putE (kindZ (zs.getD 0 0)) (zs.getD 1 0) (grpZ zs) := by unfold getE4; rw [if_neg (by omega), if_neg (by omega), if_pos h']

set_option maxHeartbeats 800000 in
theorem get_short (a : Option Addr) (n cap : Nat) (zs : List Int) (w : World) (hm : n = zs.length) (hn : n < 8) :
    Calls Try.prog 10 #[.slice a n cap] w fun e w' => e = GotEnd zs ∧ Below w.heap.size w w' := by
  have HE : Hid (getE4 zs = 2) := getE4_short (by omega)
  clear hm
  go_enter Try.func10, Try.ntmps10
  go_wp2
  go_returns
  exact ⟨got_bad HE.out (by decide), below_two_new _ _ _⟩
set_option maxHeartbeats 800000 in
theorem get_long (a : Option Addr) (n cap : Nat) (zs : List Int) (w : World) (hm : n = zs.length) (hn : 8 < n) :
    Calls Try.prog 10 #[.slice a n cap] w fun e w' => e = GotEnd zs ∧ Below w.heap.size w w' := by
  have HE : Hid (getE4 zs = 3) := getE4_long (by omega)
  clear hm
  go_enter Try.func10, Try.ntmps10
  go_wp2
  go_returns
  exact ⟨got_bad HE.out (by decide), below_two_new _ _ _⟩

theorem number_at (b off n cap k : Nat) (zs : List Int) (W : World) (hc : ∀ i, i < n → W.cell? ⟨b, off + i, none⟩ = some (.int .u8 (zs.getD i 0))) (hz : AreBytes zs) (hk : k + 4 ≤ n) :
    Calls Try.prog 20 #[.slice (some ⟨b, off + k, none⟩) 4 cap] W fun e w' => e = .returned (.int .i64 (num4At zs k)) ∧ w' = W :=
  number_four b (off + k) cap _ _ _ _ W (hc k (by omega)) (hc (k + 1) (by omega)) (hc (k + 2) (by omega)) (hc (k + 3) (by omega)) (areBytes_getD hz _) (areBytes_getD hz _) (areBytes_getD hz _) (areBytes_getD hz _)
theorem grp_at (zs : List Int) : num4At zs 4 = grpZ zs := rfl

set_option maxHeartbeats 3200000 in
theorem get_main (b off cap : Nat) (zs : List Int) (w : World) (hl : zs.length = 8) (hB : Bts w (some ⟨b, off, none⟩) zs) (hz : AreBytes zs) (hc : 8 ≤ cap) :
    Calls Try.prog 10 #[.slice (some ⟨b, off, none⟩) 8 cap] w fun e w' => e = GotEnd zs ∧ Below w.heap.size w w' := by
  have HC : Hid (∀ W, Below w.heap.size w W → ∀ i, i < 8 → W.cell? ⟨b, off + i, none⟩ = some (.int .u8 (zs.getD i 0))) := fun W hW i hi => (hB.below hW).cells i (by omega)
  have HBt : Hid (Bts w (some ⟨b, off, none⟩) zs) := hB
  have HZ : Hid (AreBytes zs) := hz
  have HS : Hid (zs ≠ wantZ4 zs → getE4 zs = 4) := getE4_sum hl
  have HP : Hid (zs = wantZ4 zs → getE4 zs = putE (kindZ (zs.getD 0 0)) (zs.getD 1 0) (grpZ zs)) := getE4_put hl
  have HL : Hid (zs.length = 8) := hl
  have d0 := areBytes_getD hz 0
  have d1 := areBytes_getD hz 1
  have hNum := fun (X : World) (hX : Below w.heap.size w X) => number_at b off 8 (cap - 4) 4 zs X ((HC.out X hX)) hz (by omega)
  have hwant : wantZ4 zs = layZ (zs.getD 0 0) (zs.getD 1 0) (grpZ zs) := rfl
  have HWANT : Hid (layZ (zs.getD 0 0) (zs.getD 1 0) (grpZ zs) = wantZ4 zs) := rfl
  have HOK : Hid (getE4 zs = 0 → Ending.returned (.tuple #[.agg #[.int .i64 (kindZ (zs.getD 0 0)), .int .i64 (zs.getD 1 0), .int .i64 (grpZ zs)], .int .i64 0]) = GotEnd zs) := got_ok
  have HC0 : Hid (∀ W, Below w.heap.size w W → W.cell? ⟨b, off, none⟩ = some (.int .u8 (zs.getD 0 0)) ∧ W.cell? ⟨b, off + 1, none⟩ = some (.int .u8 (zs.getD 1 0))) := fun W hW => ⟨HC.out W hW 0 (by omega), HC.out W hW 1 (by omega)⟩
  rw [grp_at] at hNum
  clear hB hz hl hwant HC
  generalize zs.getD 0 0 = f at *
  generalize zs.getD 1 0 = t at *
  generalize grpZ zs = g at *
  have HNum : Hid (∀ (X : World) (hX : Below w.heap.size w X), Calls Try.prog 20 #[.slice (some ⟨b, off + 4, none⟩) 4 (cap - 4)] X fun e w' => e = .returned (.int .i64 g) ∧ w' = X) := hNum
  clear hNum
  go_enter Try.func10, Try.ntmps10
  go_upto_region 6 with fail
  have hW := below_two_new w (Obj.cells #[.int .i64 0, .int .i64 0, .int .i64 0] 23) (Obj.cells #[.int .i64 0, .int .i64 0, .int .i64 0] 23)
  have hX2 : Msg ((w.alloc (Obj.cells #[.int .i64 0, .int .i64 0, .int .i64 0] 23)).alloc (Obj.cells #[.int .i64 0, .int .i64 0, .int .i64 0] 23)) w.heap.size 0 0 0 := (msg_new w 0 0 0).below ((Below.refl (w.heap.size + 1) _).alloc (by simp) _) (by omega)
  have hX4 : Msg ((w.alloc (Obj.cells #[.int .i64 0, .int .i64 0, .int .i64 0] 23)).alloc (Obj.cells #[.int .i64 0, .int .i64 0, .int .i64 0] 23)) (w.heap.size + 1) 0 0 0 := by
    have := msg_new (w.alloc (.cells #[.int .i64 0, .int .i64 0, .int .i64 0] 23)) 0 0 0
    simpa using this
  have hF : ∀ i, ((w.alloc (Obj.cells #[.int .i64 0, .int .i64 0, .int .i64 0] 23)).alloc (Obj.cells #[.int .i64 0, .int .i64 0, .int .i64 0] 23)).frozen? ⟨w.heap.size, i, none⟩ = false := fun i => by simp
  generalize (w.alloc (Obj.cells #[.int .i64 0, .int .i64 0, .int .i64 0] 23)).alloc (Obj.cells #[.int .i64 0, .int .i64 0, .int .i64 0] 23) = W at *
  have hWd : Below w.heap.size w W.drew := hW.drew
  obtain ⟨c0, c1⟩ := HC0.out _ hWd
  have HWd : Hid (Below w.heap.size w W.drew) := hWd
  have j4 : ¬ cap = 4 := by omega
  have i4 : (4 : Int) ≤ (cap : Int) := by omega
  have t0 : IntKind.i64.wrap f = f := by rw [IntKind.wrap_i64]; omega
  have t1 : IntKind.i64.wrap t = t := by rw [IntKind.wrap_i64]; omega
  go_region_held3 (fun w' => w'.cell? ⟨b, off, none⟩ = some (.int .u8 f) ∧ w'.cell? ⟨b, off + 1, none⟩ = some (.int .u8 t) ∧ Hid (Below w.heap.size w w')) (with_reducible first | exact ⟨c0, c1, HWd⟩ | assumption)
      (first | (go_at_call 20; refine (HNum.out _ HWd.out).mono ?_; rintro e w' ⟨rfl, rfl⟩) | fail)
  have hNl2 := hX2.lt
  have hNl4 := hX4.lt
  go_wp2_with fail
  refine (lay_any f t g _).mono ?_
  rintro e w3 ⟨g3, gc, rfl, ho, hk⟩
  rw [HWANT.out] at ho
  have hb3 : Below W.heap.size W w3 := ((Below.refl _ _).drew).trans hk
  have hw3 : Below w.heap.size w w3 := hW.trans (hb3.mono hW.size)
  have hY2 := hX2.below hb3 hNl2
  have hY4 := hX4.below hb3 hNl4
  have hF3 : ∀ i, w3.frozen? ⟨w.heap.size, i, none⟩ = false := fun i => by rw [hb3.frozen (p := ⟨w.heap.size, i, none⟩) hNl2]; exact hF i
  have hEq := equal_any (some ⟨b, off, none⟩) (some ⟨g3, 0, none⟩) 8 8 cap gc zs (wantZ4 zs) w3 HL.out.symm rfl (HBt.out.below hw3) ho.bts HZ.out (layZ_bd _ _ _)
  obtain ⟨q, hq⟩ : ∃ q, decide (zs = wantZ4 zs) = q := ⟨_, rfl⟩
  rw [hq] at hEq
  have HQ : Hid (decide (zs = wantZ4 zs) = q) := hq
  have HW3 : Hid (Below w.heap.size w w3) := hw3
  clear hq hw3 hb3 hk ho hX2 hX4 hW hWd HWd c0 c1 hF HC0 HNum HBt
  obtain ⟨y0, y1, y2⟩ := id hY2
  obtain ⟨z0, z1, z2⟩ := id hY4
  have HY2 : Hid (Msg w3 w.heap.size 0 0 0) := hY2
  have HY4 : Hid (Msg w3 (w.heap.size + 1) 0 0 0) := hY4
  clear hY2 hY4
  go_wp2_with fail
  refine hEq.mono ?_
  rintro e w' ⟨rfl, rfl⟩
  clear hEq
  cases q with
  | false =>
    have HE : Hid (getE4 zs = 4) := HS.out (of_decide_eq_false HQ.out)
    clear HS HP HQ HOK HWANT
    go_wp2
    have hV := msg_set (k := 0) (t := 0) (g := 0) HY2.out
    have hK := store3_below (v0 := .int .i64 0) (v1 := .int .i64 0) (v2 := .int .i64 0) (g := w.heap.size) HW3.out (Nat.le_refl _)
    generalize (((w'.setCell ⟨w.heap.size, 0, none⟩ (.int .i64 0)).setCell ⟨w.heap.size, 1, none⟩ (.int .i64 0)).setCell ⟨w.heap.size, 2, none⟩ (.int .i64 0)) = V at *
    obtain ⟨v0, v1, v2⟩ := hV
    refine bodyPost_ret (by simp [results, Try.results10, go_sem, v0, v1, v2]; try rfl) rfl ?_
    exact ⟨got_bad HE.out (by decide), hK⟩
  | true =>
    have HE : Hid (getE4 zs = putE (kindZ f) t g) := HP.out (of_decide_eq_true HQ.out)
    have HB2 : Hid (∀ r : Int, getE4 zs = r → r ≠ 0 → Ending.returned (.tuple #[.agg #[.int .i64 0, .int .i64 0, .int .i64 0], .int .i64 r]) = GotEnd zs) := fun r h => got_bad h
    have hkind := kindOf_any f w'
    have hch := fun X => check_any (kindZ f) t g X
    rw [← HE.out] at hch
    clear HS HP HQ HWANT HE
    generalize kindZ f = k at *
    go_wp2_with fail
    refine hkind.mono ?_
    rintro e w4 ⟨rfl, rfl⟩
    clear hkind
    go_upto_region 10 with fail
    have hVb := below_new' w4 (.cells #[.int .i64 k, .int .i64 t, .int .i64 g] 23)
    have hVm := msg_new w4 k t g
    have hYV := HY2.out.below hVb HY2.out.lt
    have hZV := HY4.out.below hVb HY4.out.lt
    have hFV : ∀ i, (w4.alloc (.cells #[.int .i64 k, .int .i64 t, .int .i64 g] 23)).frozen? ⟨w.heap.size, i, none⟩ = false := fun i => by rw [hVb.frozen (p := ⟨w.heap.size, i, none⟩) HY2.out.lt]; exact hF3 i
    have hWV := below_more HW3.out hVb HW3.out.size
    have hch' := hch (w4.alloc (.cells #[.int .i64 k, .int .i64 t, .int .i64 g] 23))
    clear hF3 y0 y1 y2 z0 z1 z2 hVb hch
    generalize w4.alloc (.cells #[.int .i64 k, .int .i64 t, .int .i64 g] 23) = V at *
    clear HY2 HY4 HW3
    obtain ⟨x0, x1, x2⟩ := id hVm
    go_wp2_with fail
    refine hch'.mono ?_
    rintro e w5 ⟨rfl, hb5⟩
    clear hch' x0 x1 x2
    have hM5 := hVm.below hb5 hVm.lt
    have hY5 := hYV.below hb5 hYV.lt
    have hZ5 := hZV.below hb5 hZV.lt
    have hF5 : ∀ i, w5.frozen? ⟨w.heap.size, i, none⟩ = false := fun i => by rw [hb5.frozen (p := ⟨w.heap.size, i, none⟩) hYV.lt]; exact hFV i
    have HW5 : Hid (Below w.heap.size w w5) := below_more hWV hb5 hWV.size
    have HY5 : Hid (Msg w5 w.heap.size 0 0 0) := hY5
    clear hWV hb5 hVm hYV hZV hFV
    obtain ⟨x0, x1, x2⟩ := hM5
    obtain ⟨y0, y1, y2⟩ := hY5
    obtain ⟨z0, z1, z2⟩ := hZ5
    by_cases h0 : getE4 zs = 0
    · have HR := HOK.out h0
      have HRR : Hid (Ending.returned (.tuple #[.agg #[.int .i64 k, .int .i64 t, .int .i64 g], .int .i64 0]) = GotEnd zs) := HR
      rw [h0]
      clear HR h0 HOK HB2
      go_wp2
      have hV := msg_set (k := k) (t := t) (g := g) HY5.out
      have hK := store3_below (v0 := .int .i64 k) (v1 := .int .i64 t) (v2 := .int .i64 g) (g := w.heap.size) HW5.out (Nat.le_refl _)
      generalize (((w5.setCell ⟨w.heap.size, 0, none⟩ (.int .i64 k)).setCell ⟨w.heap.size, 1, none⟩ (.int .i64 t)).setCell ⟨w.heap.size, 2, none⟩ (.int .i64 g)) = Z at *
      obtain ⟨v0, v1, v2⟩ := hV
      refine bodyPost_ret (by simp [results, Try.results10, go_sem, v0, v1, v2]; try rfl) rfl ?_
      exact ⟨HRR.out, hK⟩
    · have e0 : (getE4 zs != 0) = true := by simp [h0]
      have HRR : Hid (Ending.returned (.tuple #[.agg #[.int .i64 0, .int .i64 0, .int .i64 0], .int .i64 (getE4 zs)]) = GotEnd zs) := HB2.out _ rfl h0
      clear h0 HOK HB2
      generalize getE4 zs = r at *
      go_wp2
      have hV := msg_set (k := 0) (t := 0) (g := 0) HY5.out
      have hK := store3_below (v0 := .int .i64 0) (v1 := .int .i64 0) (v2 := .int .i64 0) (g := w.heap.size) HW5.out (Nat.le_refl _)
      generalize (((w5.setCell ⟨w.heap.size, 0, none⟩ (.int .i64 0)).setCell ⟨w.heap.size, 1, none⟩ (.int .i64 0)).setCell ⟨w.heap.size, 2, none⟩ (.int .i64 0)) = Z at *
      obtain ⟨v0, v1, v2⟩ := hV
      refine bodyPost_ret (by simp [results, Try.results10, go_sem, v0, v1, v2]; try rfl) rfl ?_
      exact ⟨HRR.out, hK⟩
theorem get_any (a : Option Addr) (n cap : Nat) (zs : List Int) (w : World) (hm : n = zs.length) (hB : Bts w a zs) (hz : AreBytes zs) (hc : n ≤ cap) :
    Calls Try.prog 10 #[.slice a n cap] w fun e w' => e = GotEnd zs ∧ Below w.heap.size w w' := by
  by_cases h1 : n < 8
  · exact get_short a n cap zs w hm h1
  by_cases h2 : 8 < n
  · exact get_long a n cap zs w hm h2
  obtain rfl : n = 8 := by omega
  rcases hB with rfl | ⟨b, off, rfl, hcl⟩
  · simp at hm
  · exact get_main b off cap zs w hm.symm (.inr ⟨b, off, rfl, hcl⟩) hz hc
end Go.Proofs.Ytnnmaelnkoihjaa
