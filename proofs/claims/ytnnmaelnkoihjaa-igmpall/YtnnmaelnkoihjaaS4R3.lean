/- The document's way to get a message. -/
import Derived.Test.YtnnmaelnkoihjaaS4R2
namespace Go.Proofs.Ytnnmaelnkoihjaa
open Go.RowKit

set_option maxHeartbeats 800000 in
theorem rget_short (a : Option Addr) (n cap : Nat) (zs : List Int) (w : World) (hm : n = zs.length) (hn : n < 8) :
    Calls Try.prog 11 #[.slice a n cap] w fun e w' => e = GotEnd zs ∧ Below w.heap.size w w' := by
  have HE : Hid (getE4 zs = 2) := getE4_short (by omega)
  clear hm
  go_enter Try.func11, Try.ntmps11
  go_wp2
  go_returns
  exact ⟨got_bad HE.out (by decide), below_new' _ _⟩
set_option maxHeartbeats 800000 in
theorem rget_long (a : Option Addr) (n cap : Nat) (zs : List Int) (w : World) (hm : n = zs.length) (hn : 8 < n) :
    Calls Try.prog 11 #[.slice a n cap] w fun e w' => e = GotEnd zs ∧ Below w.heap.size w w' := by
  have HE : Hid (getE4 zs = 3) := getE4_long (by omega)
  clear hm
  go_enter Try.func11, Try.ntmps11
  go_wp2
  go_returns
  exact ⟨got_bad HE.out (by decide), below_new' _ _⟩
/-- The kind that is found among those below k. -/
def kindTo (f : Int) (k : Nat) : Int := if kindZ f < k then kindZ f else 0
theorem kindTo_one (f : Int) : kindTo f 1 = 0 := by
  have := kindZ_bd f
  unfold kindTo; split
  · omega
  · rfl
theorem kindTo_five (f : Int) : kindTo f 5 = kindZ f := by
  have := kindZ_bd f
  unfold kindTo; rw [if_pos (by omega)]
theorem kindTo_hit {f : Int} {k : Nat} (h0 : 1 ≤ k) (h1 : k ≤ 4) (h : codeZ k = f) : kindTo f (k + 1) = k := by
  unfold kindTo; rw [kind_found h0 h1 h, if_pos (by omega)]
theorem kindTo_miss {f : Int} {k : Nat} (h0 : 1 ≤ k) (h : codeZ k ≠ f) : kindTo f (k + 1) = kindTo f k := by
  have hne : kindZ f ≠ k := fun e => h (by rw [← e]; exact codeZ_kind f (by omega))
  unfold kindTo
  by_cases h2 : kindZ f < k
  · rw [if_pos (by omega), if_pos h2]
  · rw [if_neg (by omega), if_neg h2]
theorem sum_iff {zs : List Int} (hl : zs.length = 8) (hz : AreBytes zs) : zs = wantZ4 zs ↔ inetZ ((zs.set 2 0).set 3 0) = num2At zs 2 := by
  obtain ⟨a, b, c, d, e, f, g, i, rfl⟩ := list8 hl
  rw [want_iff _ _ _ _ _ _ _ _ hz]
  exact ⟨fun h => h.symm, fun h => h.symm⟩

/-- A message in a variable that can be written. -/
def Own3 (w : World) (b : Nat) (k t g : Int) : Prop := Msg w b k t g ∧ ∀ i, w.frozen? ⟨b, i, none⟩ = false
theorem Own3.belowN {w w' : World} {b N : Nat} {k t g : Int} (h : Own3 w b k t g) (hb : Below N w w') (hN : b < N) : Own3 w' b k t g :=
  ⟨h.1.below hb hN, fun i => by rw [hb.frozen (p := ⟨b, i, none⟩) hN]; exact h.2 i⟩
theorem Own3.below {w w' : World} {b : Nat} {k t g : Int} (h : Own3 w b k t g) (hb : Below w.heap.size w w') : Own3 w' b k t g := h.belowN hb h.1.lt
theorem own3_new (w : World) (k t g : Int) : Own3 (w.alloc (.cells #[.int .i64 k, .int .i64 t, .int .i64 g] 23)) w.heap.size k t g :=
  ⟨msg_new w k t g, fun i => by simp⟩

theorem own3_set {w : World} {b : Nat} {k t g k' : Int} (h : Own3 w b k t g) : Own3 (w.setCell ⟨b, 0, none⟩ (.int .i64 k')) b k' t g := by
  obtain ⟨⟨h0, h1, h2⟩, hf⟩ := h
  refine ⟨⟨cell_eq h0, by rw [cell_ne _ (by decide)]; exact h1, by rw [cell_ne _ (by decide)]; exact h2⟩, fun i => ?_⟩
  rw [World.frozen?_setCell]; exact hf i
theorem areSet {zs : List Int} (h : AreBytes zs) (k : Nat) : AreBytes (zs.set k 0) := fun z hz => by
  rcases List.mem_or_eq_of_mem_set hz with h' | rfl
  · exact h z h'
  · omega
theorem keep_one {w W W' : World} {p : Addr} {x : Value} (h : W.cell? p = some x ∧ Hid (Below w.heap.size w W)) (hp : p.block < w.heap.size) (hb : Below w.heap.size W W') : W'.cell? p = some x ∧ Hid (Below w.heap.size w W') :=
  ⟨by rw [hb.cell hp]; exact h.1, h.2.out.trans hb⟩
theorem keep_one_new {w W : World} {p : Addr} {x : Value} (h : W.cell? p = some x ∧ Hid (Below w.heap.size w W)) (hp : p.block < w.heap.size) (o : Obj) : (W.alloc o).cell? p = some x ∧ Hid (Below w.heap.size w (W.alloc o)) :=
  keep_one h hp ((Below.refl _ _).alloc h.2.out.size _)
theorem keep_one_drew {w W : World} {p : Addr} {x : Value} (h : W.cell? p = some x ∧ Hid (Below w.heap.size w W)) : W.drew.cell? p = some x ∧ Hid (Below w.heap.size w W.drew) := ⟨h.1, h.2.out.drew⟩
theorem keep_three {w W : World} {p : Addr} {x v0 v1 v2 : Value} {g : Nat} (h : W.cell? p = some x ∧ Hid (Below w.heap.size w W)) (hp : p.block < w.heap.size) (hg : w.heap.size ≤ g) : (((W.setCell ⟨g, 0, none⟩ v0).setCell ⟨g, 1, none⟩ v1).setCell ⟨g, 2, none⟩ v2).cell? p = some x ∧ Hid (Below w.heap.size w (((W.setCell ⟨g, 0, none⟩ v0).setCell ⟨g, 1, none⟩ v1).setCell ⟨g, 2, none⟩ v2)) :=
  keep_one h hp ((((Below.refl _ _).setCell (p := ⟨g, 0, none⟩) hg _).setCell (p := ⟨g, 1, none⟩) hg _).setCell (p := ⟨g, 2, none⟩) hg _)
theorem rput_any (k t g : Int) (w : World) :
    Calls Try.prog 9 #[.agg #[.int .i64 k, .int .i64 t, .int .i64 g]] w fun e w' =>
      ∃ (a : Option Addr) (n cap : Nat), e = .returned (.tuple #[.slice a n cap, .int .i64 (putE k t g)]) ∧ n = (putB k t g).length ∧ n ≤ cap ∧ Bts w' a (putB k t g) ∧ Below w.heap.size w w' := by
  by_cases h : putE k t g = 0
  · refine (rput_good k t g w h).mono ?_
    rintro e w' ⟨b, cap, rfl, ho, hb⟩
    exact ⟨_, _, _, by rw [h], by rw [putB_ok h]; rfl, by have := ho.cap; rw [layZ_length] at this; exact this, by rw [putB_ok h]; exact ho.bts, hb⟩
  · refine (rput_bad k t g w h).mono ?_
    rintro e w' ⟨rfl, hb⟩
    exact ⟨_, _, _, rfl, by rw [putB_bad h]; rfl, by omega, by rw [putB_bad h]; exact .inl rfl, hb⟩
set_option maxHeartbeats 3200000 in
theorem rget_main (b off cap : Nat) (zs : List Int) (w : World) (hl : zs.length = 8) (hB : Bts w (some ⟨b, off, none⟩) zs) (hz : AreBytes zs) :
    Calls Try.prog 11 #[.slice (some ⟨b, off, none⟩) 8 cap] w fun e w' => e = GotEnd zs ∧ Below w.heap.size w w' := by
  have HC : Hid (∀ W, Below w.heap.size w W → ∀ i, i < 8 → W.cell? ⟨b, off + i, none⟩ = some (.int .u8 (zs.getD i 0))) := fun W hW i hi => (hB.below hW).cells i (by omega)
  have HBt : Hid (Bts w (some ⟨b, off, none⟩) zs) := hB
  have HZ : Hid (AreBytes zs) := hz
  have HS : Hid (zs ≠ wantZ4 zs → getE4 zs = 4) := getE4_sum hl
  have HP : Hid (zs = wantZ4 zs → getE4 zs = putE (kindZ (zs.getD 0 0)) (zs.getD 1 0) (grpZ zs)) := getE4_put hl
  have HIF : Hid (zs = wantZ4 zs ↔ inetZ ((zs.set 2 0).set 3 0) = num2At zs 2) := sum_iff hl hz
  have HL : Hid (zs.length = 8) := hl
  have d0 := areBytes_getD hz 0
  have d1 := areBytes_getD hz 1
  have HTwo : Hid (∀ X, Below w.heap.size w X → Calls Try.prog 23 #[.slice (some ⟨b, off, none⟩) 8 cap, .int .i64 2] X fun e w' => e = .returned (.int .i64 (num2At zs 2)) ∧ w' = X.drew) := fun X hX => rtwo_at b off 8 cap 2 2 rfl zs X (HC.out X hX) hz (by omega) (by omega)
  have HFour : Hid (∀ X, Below w.heap.size w X → Calls Try.prog 24 #[.slice (some ⟨b, off, none⟩) 8 cap, .int .i64 4] X fun e w' => e = .returned (.int .i64 (grpZ zs)) ∧ w' = X.drew) := fun X hX => rfour_at b off 8 cap 4 4 rfl zs X (HC.out X hX) hz (by omega) (by omega)
  have HOK : Hid (getE4 zs = 0 → Ending.returned (.tuple #[.agg #[.int .i64 (kindZ (zs.getD 0 0)), .int .i64 (zs.getD 1 0), .int .i64 (grpZ zs)], .int .i64 0]) = GotEnd zs) := got_ok
  have HC0 : Hid (∀ W, Below w.heap.size w W → W.cell? ⟨b, off, none⟩ = some (.int .u8 (zs.getD 0 0)) ∧ W.cell? ⟨b, off + 1, none⟩ = some (.int .u8 (zs.getD 1 0))) := fun W hW => ⟨HC.out W hW 0 (by omega), HC.out W hW 1 (by omega)⟩
  have HK1 : Hid (kindTo (zs.getD 0 0) 1 = 0) := kindTo_one _
  have HK5 : Hid (kindTo (zs.getD 0 0) 5 = kindZ (zs.getD 0 0)) := kindTo_five _
  have HKH : Hid (∀ k : Nat, 1 ≤ k → k ≤ 4 → codeZ k = zs.getD 0 0 → kindTo (zs.getD 0 0) (k + 1) = k) := fun k h0 h1 h => kindTo_hit h0 h1 h
  have HKM : Hid (∀ k : Nat, 1 ≤ k → codeZ k ≠ zs.getD 0 0 → kindTo (zs.getD 0 0) (k + 1) = kindTo (zs.getD 0 0) k) := fun k h0 h => kindTo_miss h0 h
  clear hB hz hl HC
  generalize zs.getD 0 0 = f at *
  generalize zs.getD 1 0 = t at *
  generalize grpZ zs = g at *
  have hO0 : Own3 (w.alloc (.cells #[.int .i64 0, .int .i64 0, .int .i64 0] 23)) w.heap.size 0 0 0 := own3_new w 0 0 0
  have hB0 : Below w.heap.size w (w.alloc (.cells #[.int .i64 0, .int .i64 0, .int .i64 0] 23)) := below_new' _ _
  have HO0 : Hid (Own3 (w.alloc (.cells #[.int .i64 0, .int .i64 0, .int .i64 0] 23)) w.heap.size 0 0 0) := hO0
  have HB0 : Hid (Below w.heap.size w (w.alloc (.cells #[.int .i64 0, .int .i64 0, .int .i64 0] 23))) := hB0
  clear hO0 hB0
  go_enter Try.func11, Try.ntmps11
  go_upto_region 5 with fail
  generalize w.alloc (.cells #[.int .i64 0, .int .i64 0, .int .i64 0] 23) = W at *
  have hbtW := HBt.out.below HB0.out
  go_wp2_with (at_builtin; go_must (refine wp_copy_bytes W W.heap.size rfl rfl _ _ rfl rfl _ _ _ rfl zs HL.out.symm hbtW (by simp) (by rw [HL.out]; decide) ?_))
  intro g1 cp1 w1 ho1 hb1
  have hOR := HO0.out.below hb1
  have hBw := below_more HB0.out hb1 HB0.out.size
  have HO1 : Hid (Owns w1 W.heap.size g1 cp1 zs) := ho1
  have f2 := ho1.frozen 2
  have c2 := ho1.cell 2 (by rw [HL.out]; decide)
  have hcp : (8 : Int) ≤ (cp1 : Int) := by have := ho1.cap; rw [HL.out] at this; omega
  have HOR : Hid (Own3 w1 w.heap.size 0 0 0) := hOR
  have HBW : Hid (Below w.heap.size w w1) := hBw
  clear hbtW ho1 hb1 hOR hBw
  have hWlt : w.heap.size < W.heap.size := HO0.out.1.lt
  go_upto_region 7 with fail
  have hg1 := HO1.out.lt.1
  have ho2 := HO1.out.stored 2 0
  have hk2 : Below W.heap.size w1 (w1.setCell ⟨g1, 2, none⟩ (.int .u8 0)) := (Below.refl _ _).setCell (p := ⟨g1, 2, none⟩) hg1 _
  have HO2 : Hid (Owns (w1.setCell ⟨g1, 2, none⟩ (.int .u8 0)) W.heap.size g1 cp1 (zs.set 2 0)) := ho2
  have HOR2 : Hid (Own3 (w1.setCell ⟨g1, 2, none⟩ (.int .u8 0)) w.heap.size 0 0 0) := HOR.out.belowN hk2 hWlt
  have HBW2 : Hid (Below w.heap.size w (w1.setCell ⟨g1, 2, none⟩ (.int .u8 0))) := below_more HBW.out hk2 (Nat.le_of_lt hWlt)
  have f3 := ho2.frozen 3
  have c3 := ho2.cell 3 (by rw [List.length_set, HL.out]; decide)
  clear ho2 hk2 HO1 HOR HBW c2 f2
  generalize w1.setCell ⟨g1, 2, none⟩ (.int .u8 0) = w2 at *
  go_upto_region 8 with fail
  have ho3 := HO2.out.stored 3 0
  have hk3 : Below W.heap.size w2 (w2.setCell ⟨g1, 3, none⟩ (.int .u8 0)) := (Below.refl _ _).setCell (p := ⟨g1, 3, none⟩) hg1 _
  have HOR3 : Hid (Own3 (w2.setCell ⟨g1, 3, none⟩ (.int .u8 0)) w.heap.size 0 0 0) := HOR2.out.belowN hk3 hWlt
  have HBW3 : Hid (Below w.heap.size w (w2.setCell ⟨g1, 3, none⟩ (.int .u8 0))) := below_more HBW2.out hk3 (Nat.le_of_lt hWlt)
  have hin := rinet_at (some ⟨g1, 0, none⟩) 8 cp1 ((zs.set 2 0).set 3 0) (w2.setCell ⟨g1, 3, none⟩ (.int .u8 0)) (by rw [List.length_set, List.length_set, HL.out]) ho3.bts (areSet (areSet HZ.out 2) 3) (by rw [List.length_set, List.length_set, HL.out]; decide)
  clear ho3 hk3 HO2 HOR2 HBW2 c3 f3
  generalize w2.setCell ⟨g1, 3, none⟩ (.int .u8 0) = w3 at *
  generalize inetZ ((zs.set 2 0).set 3 0) = s at *
  generalize num2At zs 2 = n2 at *
  go_wp2_with fail
  refine hin.mono ?_
  rintro e v3 ⟨rfl, rfl⟩
  clear hin
  go_wp2_with fail
  refine (HTwo.out _ HBW3.out).mono ?_
  rintro e w4 ⟨rfl, rfl⟩
  clear HTwo
  by_cases hs : s = n2
  rotate_left
  · have q : (s != n2) = true := by simp [hs]
    have HE : Hid (getE4 zs = 4) := HS.out fun h => hs (HIF.out.1 h)
    clear hs
    obtain ⟨y0, y1, y2⟩ := id HOR3.out.1
    have hF := HOR3.out.2
    go_wp2
    have hV := msg_set (k := 0) (t := 0) (g := 0) HOR3.out.1
    have hK := (store3_below (v0 := .int .i64 0) (v1 := .int .i64 0) (v2 := .int .i64 0) (g := w.heap.size) HBW3.out (Nat.le_refl _)).drew
    generalize (((v3.setCell ⟨w.heap.size, 0, none⟩ (.int .i64 0)).setCell ⟨w.heap.size, 1, none⟩ (.int .i64 0)).setCell ⟨w.heap.size, 2, none⟩ (.int .i64 0)) = V at *
    obtain ⟨u0, u1, u2⟩ := hV
    (try simp only [Exit.inBlock, Exit.then])
    refine bodyPost_ret (by simp [results, Try.results11, go_sem, u0, u1, u2]; try rfl) rfl ?_
    exact ⟨got_bad HE.out (by decide), hK⟩
  · have q : (s != n2) = false := by simp [hs]
    have HE : Hid (getE4 zs = putE (kindZ f) t g) := HP.out (HIF.out.2 hs)
    clear hs HS HP HIF
    go_upto_region 10 with fail
    have HBX : Hid (Below w.heap.size w v3.drew) := HBW3.out.drew
    have HOX : Hid (Own3 v3.drew w.heap.size 0 0 0) := HOR3.out.below (Below.refl _ _).drew
    clear HOR3 HBW3
    generalize v3.drew = X at *
    go_cut [5] from 30 (fun v wx => ∃ g5 : Nat, v = .pointer (some ⟨g5, 0, none⟩) ∧ X.heap.size ≤ g5 ∧ Hid (Own3 wx g5 0 t g) ∧ Hid (Below X.heap.size X wx))
    case first =>
      have hXd : Below w.heap.size w X.drew := HBX.out.drew
      have c1 := (HC0.out _ hXd).2
      have hlt := cell_lt' (HC0.out w (Below.refl _ _)).2
      have HXd : Hid (Below w.heap.size w X.drew) := hXd
      have hS0 : X.drew.cell? ⟨b, off + 1, none⟩ = some (.int .u8 t) ∧ Hid (Below w.heap.size w X.drew) := ⟨c1, hXd⟩
      have hSX : X.cell? ⟨b, off + 1, none⟩ = some (.int .u8 t) ∧ Hid (Below w.heap.size w X) := ⟨(HC0.out _ HBX.out).2, HBX.out⟩
      have t1 : IntKind.i64.wrap t = t := by rw [IntKind.wrap_i64]; omega
      clear hXd
      go_region_held3 (fun w' => w'.cell? ⟨b, off + 1, none⟩ = some (.int .u8 t) ∧ Hid (Below w.heap.size w w')) (with_reducible first | exact hS0 | assumption | ((repeat (first | refine keep_one_drew ?_ | refine keep_one_new ?_ hlt _ | refine keep_three ?_ hlt HBX.out.size)); exact hSX))
        (first | (go_at_call 24; refine (HFour.out _ (‹_ ∧ Hid (Below w.heap.size w _)›).2.out).mono ?_; rintro e w' ⟨rfl, rfl⟩) | fail)
      all_goals go_wp2
      all_goals go_meet
      all_goals exact ⟨_, rfl, Nat.le_refl _, (own3_new X 0 t g).below ((Below.refl _ _).drew).drew, ((below_new' X _).drew).drew⟩
    case rest =>
      obtain ⟨g5, rfl, hg5, hO5, hB5⟩ := hcut
      have hXlt : w.heap.size < X.heap.size := HOX.out.1.lt
      have HOR5 : Hid (Own3 wc w.heap.size 0 0 0) := HOX.out.below hB5.out
      have HBW5 : Hid (Below w.heap.size w wc) := below_more HBX.out hB5.out (Nat.le_of_lt hXlt)
      have hg5' : w.heap.size < g5 := Nat.lt_of_lt_of_le hXlt hg5
      have hblt : b < w.heap.size := cell_lt' (HC0.out w (Below.refl _ _)).1
      clear HFour HBX HOX hB5 hg5 HBt HZ HL q
      go_wp2
      go_loopw [6] (fun v wr => ∃ k : Nat, v = .int .i64 k ∧ 1 ≤ k ∧ k ≤ 5 ∧ Hid (Own3 wr g5 (kindTo f k) t g) ∧ Hid (Own3 wr w.heap.size 0 0 0) ∧ Hid (Below w.heap.size w wr)) (fun v _ => 6 - (intOf v).toNat)
      case atStart => exact ⟨1, rfl, by omega, by omega, by rw [HK1.out]; exact hO5.out, HOR5.out, HBW5.out⟩
      case round =>
        clear hO5 HOR5 HBW5
        obtain ⟨k, rfl, k1, k5, hO, hR, hB⟩ := hrel
        by_cases h4 : k ≤ 4
        · have HK := rkinds_any k (by omega) (by omega)
          have c0 := (HC0.out _ hB.out.drew).1
          have hS0 : wr.drew.cell? ⟨b, off, none⟩ = some (.int .u8 f) ∧ Hid (Below w.heap.size w wr.drew) := ⟨c0, hB.out.drew⟩
          have hsz : w.heap.size ≤ wr.drew.heap.size := hB.out.size
          by_cases hc : codeZ k = f
          · have e1 : (codeZ k == f) = true := by simp [hc]
            have HT : Hid (kindTo f (k + 1) = k) := HKH.out k k1 h4 hc
            clear hc
            generalize codeZ k = c at *
            go_upto_region 14 with fail
            go_region_held3 (fun w' => w'.cell? ⟨b, off, none⟩ = some (.int .u8 f) ∧ Hid (Below w.heap.size w w')) (with_reducible first | exact hS0 | assumption | exact keep_one hS0 hblt (hk.mono hsz))
              (first | (go_at_call 17; refine (HK _).mono ?_; rintro e w' ⟨rfl, hk⟩) | fail)
            have hk' : Below wr.heap.size wr w' := ((Below.refl _ _).drew).trans hk
            have hO' := hO.out.below hk'
            have hR' := hR.out.below hk'
            have hB' := below_more hB.out hk' hB.out.size
            obtain ⟨x0, x1, x2⟩ := id hO'.1
            have hF := hO'.2
            have HR : Hid (Own3 (w'.setCell ⟨g5, 0, none⟩ (.int .i64 k)) g5 (kindTo f (k + 1)) t g ∧ Own3 (w'.setCell ⟨g5, 0, none⟩ (.int .i64 k)) w.heap.size 0 0 0 ∧ Below w.heap.size w (w'.setCell ⟨g5, 0, none⟩ (.int .i64 k))) :=
              ⟨by rw [HT.out]; exact own3_set hO', hR'.belowN ((Below.refl g5 w').setCell (p := ⟨g5, 0, none⟩) (Nat.le_refl _) _) hg5', hB'.setCell (p := ⟨g5, 0, none⟩) (Nat.le_of_lt hg5') _⟩
            clear hk hk' hO hR hB hO' hR' hB' c0 hS0
            go_wp2
            go_roundw
            case rel => exact ⟨k + 1, by go_num, by omega, by omega, HR.out.1, HR.out.2.1, HR.out.2.2⟩
            case measure => simp [intOf]; omega
          · have e1 : (codeZ k == f) = false := by simp [hc]
            have HT : Hid (kindTo f (k + 1) = kindTo f k) := HKM.out k k1 hc
            clear hc
            generalize codeZ k = c at *
            go_upto_region 14 with fail
            go_region_held3 (fun w' => w'.cell? ⟨b, off, none⟩ = some (.int .u8 f) ∧ Hid (Below w.heap.size w w')) (with_reducible first | exact hS0 | assumption | exact keep_one hS0 hblt (hk.mono hsz))
              (first | (go_at_call 17; refine (HK _).mono ?_; rintro e w' ⟨rfl, hk⟩) | fail)
            have hk' : Below wr.heap.size wr w' := ((Below.refl _ _).drew).trans hk
            have HR : Hid (Own3 w' g5 (kindTo f (k + 1)) t g ∧ Own3 w' w.heap.size 0 0 0 ∧ Below w.heap.size w w') := ⟨by rw [HT.out]; exact hO.out.below hk', hR.out.below hk', below_more hB.out hk' hB.out.size⟩
            clear hk hk' hO hR hB c0 hS0
            go_wp2
            go_roundw
            case rel => exact ⟨k + 1, by go_num, by omega, by omega, HR.out.1, HR.out.2.1, HR.out.2.2⟩
            case measure => simp [intOf]; omega
        · obtain rfl : k = 5 := by omega
          rw [HK5.out] at hO
          have hput := rput_any (kindZ f) t g wr
          rw [← HE.out] at hput
          have HB2 : Hid (∀ r : Int, getE4 zs = r → r ≠ 0 → Ending.returned (.tuple #[.agg #[.int .i64 0, .int .i64 0, .int .i64 0], .int .i64 r]) = GotEnd zs) := fun r h => got_bad h
          clear HE HC0 HK1 HK5 HKH HKM
          generalize kindZ f = k at *
          obtain ⟨x0, x1, x2⟩ := id hO.out.1
          go_wp2_with fail
          refine hput.mono ?_
          rintro e w5 ⟨a5, n5, cp5, rfl, _, _, _, hb5⟩
          clear hput x0 x1 x2
          have hM5 := hO.out.below hb5
          have hY5 := hR.out.below hb5
          have HW5 : Hid (Below w.heap.size w w5) := below_more hB.out hb5 hB.out.size
          have HY5 : Hid (Own3 w5 w.heap.size 0 0 0) := hY5
          clear hb5 hO hR hB
          obtain ⟨x0, x1, x2⟩ := hM5.1
          obtain ⟨y0, y1, y2⟩ := hY5.1
          have hF := hY5.2
          clear hM5 hY5
          by_cases h0 : getE4 zs = 0
          · have HRR : Hid (Ending.returned (.tuple #[.agg #[.int .i64 k, .int .i64 t, .int .i64 g], .int .i64 0]) = GotEnd zs) := HOK.out h0
            rw [h0]
            clear h0 HOK HB2
            go_wp2
            have hV := msg_set (k := k) (t := t) (g := g) HY5.out.1
            have hK := store3_below (v0 := .int .i64 k) (v1 := .int .i64 t) (v2 := .int .i64 g) (g := w.heap.size) HW5.out (Nat.le_refl _)
            generalize (((w5.setCell ⟨w.heap.size, 0, none⟩ (.int .i64 k)).setCell ⟨w.heap.size, 1, none⟩ (.int .i64 t)).setCell ⟨w.heap.size, 2, none⟩ (.int .i64 g)) = Z at *
            obtain ⟨v0, v1, v2⟩ := hV
            (try simp only [Exit.inBlock, Exit.then])
            refine bodyPost_ret (by simp [results, Try.results11, go_sem, v0, v1, v2]; try rfl) rfl ?_
            exact ⟨HRR.out, hK⟩
          · have e0 : (getE4 zs != 0) = true := by simp [h0]
            have HRR : Hid (Ending.returned (.tuple #[.agg #[.int .i64 0, .int .i64 0, .int .i64 0], .int .i64 (getE4 zs)]) = GotEnd zs) := HB2.out _ rfl h0
            clear h0 HOK HB2
            generalize getE4 zs = r at *
            go_wp2
            have hV := msg_set (k := 0) (t := 0) (g := 0) HY5.out.1
            have hK := store3_below (v0 := .int .i64 0) (v1 := .int .i64 0) (v2 := .int .i64 0) (g := w.heap.size) HW5.out (Nat.le_refl _)
            generalize (((w5.setCell ⟨w.heap.size, 0, none⟩ (.int .i64 0)).setCell ⟨w.heap.size, 1, none⟩ (.int .i64 0)).setCell ⟨w.heap.size, 2, none⟩ (.int .i64 0)) = Z at *
            obtain ⟨v0, v1, v2⟩ := hV
            (try simp only [Exit.inBlock, Exit.then])
            refine bodyPost_ret (by simp [results, Try.results11, go_sem, v0, v1, v2]; try rfl) rfl ?_
            exact ⟨HRR.out, hK⟩
theorem rget_any (a : Option Addr) (n cap : Nat) (zs : List Int) (w : World) (hm : n = zs.length) (hB : Bts w a zs) (hz : AreBytes zs) :
    Calls Try.prog 11 #[.slice a n cap] w fun e w' => e = GotEnd zs ∧ Below w.heap.size w w' := by
  by_cases h1 : n < 8
  · exact rget_short a n cap zs w hm h1
  by_cases h2 : 8 < n
  · exact rget_long a n cap zs w hm h2
  obtain rfl : n = 8 := by omega
  rcases hB with rfl | ⟨b, off, rfl, hcl⟩
  · simp at hm
  · exact rget_main b off cap zs w hm.symm (.inr ⟨b, off, rfl, hcl⟩) hz
end Go.Proofs.Ytnnmaelnkoihjaa
