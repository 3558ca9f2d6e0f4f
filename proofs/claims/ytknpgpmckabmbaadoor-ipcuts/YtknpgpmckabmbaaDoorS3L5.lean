/- The walk of IpCuts. -/
import Derived.Test.YtknpgpmckabmbaaDoorS3L4
import Derived.Laws.MakeOwn
namespace Go.Proofs.YtknpgpmckabmbaaDoor
open Go.RowKit

theorem make_run (W : World) (x : Int) : ∃ C : Array Value, (Instr.makeSlice 22 (.int .i64 (1025 + x % 100)) (.int .i64 (1025 + x % 100))).run Tryd.prog W = .ok (.slice (some ⟨W.heap.size, 0, none⟩) (1025 + x % 100).toNat (1025 + x % 100).toNat) (W.alloc (.cells C 5)) := by
  obtain ⟨i, hi, hz0, hz1, hz2⟩ := info_parts info_u8
  exact ⟨_, run_makeSlice W 22 5 i (.int .u8 0) Tryd.underlying22 hi hz0 .i64 .i64 _ _ (by omega) (Int.le_refl _) (by rw [hz1]; omega) (by rw [hz2]; omega) (by omega)⟩
theorem areBytes_append {xs ys : List Int} (h : AreBytes xs) (k : AreBytes ys) : AreBytes (xs ++ ys) := fun z hz => by
  rcases List.mem_append.1 hz with e | e
  · exact h z e
  · exact k z e

set_option maxHeartbeats 1600000 in
theorem ipCuts_walk (t p s d : Int) (a : Option Addr) (cp : Nat) (xs : List Int) (x : Int) (ay : Option Addr) (cy : Nat) (ys : List Int) (w : World) (hB : Bts w a xs) (hz : AreBytes xs) (hnil : a = none → cp = 0) (hx : 0 ≤ x ∧ x ≤ 65535)
    (hBy : Bts w ay ys) (hzy : AreBytes ys) (hnily : ay = none → cy = 0) (hE : Env w) :
    Calls Tryd.prog 7 #[.agg #[.int .i64 t, .int .i64 p, .int .i64 s, .int .i64 d, .slice a xs.length cp], .int .u16 x, .slice ay ys.length cy] w fun e w' => e = .returned (.bool true) ∧ Below w.heap.size w w' := by
  have hb0 := below_new' w (.cells #[.int .i64 t, .int .i64 p, .int .i64 s, .int .i64 d, .slice a xs.length cp] 24)
  have HB0 : Hid (Below w.heap.size w (w.alloc (.cells #[.int .i64 t, .int .i64 p, .int .i64 s, .int .i64 d, .slice a xs.length cp] 24))) := hb0
  have HE : Hid (Env w) := hE
  by_cases h1 : 1024 < xs.length
  · clear hb0
    go_enter Tryd.func7, Tryd.ntmps7
    go_wp2_with fail
    refine (awake_any _).mono ?_
    rintro e w2 ⟨rfl, hb2⟩
    go_wp2
    go_ret
    exact ⟨rfl, below_more HB0.out hb2 HB0.out.size⟩
  by_cases h2 : ys.length = 0
  · clear hb0
    go_enter Tryd.func7, Tryd.ntmps7
    go_wp2_with fail
    refine (awake_any _).mono ?_
    rintro e w2 ⟨rfl, hb2⟩
    go_wp2
    go_ret
    exact ⟨rfl, below_more HB0.out hb2 HB0.out.size⟩
  by_cases h3 : 500 < ys.length
  · clear hb0
    go_enter Tryd.func7, Tryd.ntmps7
    go_wp2_with fail
    refine (awake_any _).mono ?_
    rintro e w2 ⟨rfl, hb2⟩
    go_wp2
    go_ret
    exact ⟨rfl, below_more HB0.out hb2 HB0.out.size⟩
  have t2 : ((ys.length : Int) == 0) = false := beq_eq_false_iff_ne.2 (by omega)
  by_cases hk : putE t p s d xs.length = 0
  rotate_left
  · have hput := put_bad t p s d a xs.length cp (w.alloc (.cells #[.int .i64 t, .int .i64 p, .int .i64 s, .int .i64 d, .slice a xs.length cp] 24)) (HE.out.below hb0 (Nat.le_refl _)) _ rfl hk
    have k0 : (putE t p s d xs.length != 0) = true := by simp [hk]
    clear hb0 hB hz hnil hE hBy hzy hnily
    generalize putE t p s d xs.length = k at *
    go_enter Tryd.func7, Tryd.ntmps7
    go_wp2_with fail
    refine hput.mono ?_
    rintro e w1 ⟨rfl, hb1⟩
    clear hput
    have HB1 : Hid (Below w.heap.size w w1) := below_more HB0.out hb1 (by simp)
    clear hb1
    go_wp2_with fail
    refine (num_any _ _).mono ?_
    rintro e w' ⟨rfl, rfl⟩
    go_wp2_with fail
    refine (num_any _ _).mono ?_
    rintro e w' ⟨rfl, rfl⟩
    go_wp2_with fail
    refine (awake_any _).mono ?_
    rintro e w4 ⟨rfl, hb4⟩
    have HB4 : Hid (Below w.heap.size w w4) := below_more HB1.out hb4 HB1.out.size
    clear hb4
    go_wp2
    go_ret
    exact ⟨rfl, HB4.out⟩
  have hput := put_ok t p s d a cp xs (w.alloc (.cells #[.int .i64 t, .int .i64 p, .int .i64 s, .int .i64 d, .slice a xs.length cp] 24)) (hB.below hb0) hnil hk
  have hok := (putE_zero hk).1
  have HOK : Hid (okB t p s d = true) := hok
  have HGE : Hid (getE (putB t p s d xs) = 0) := putB_ok (xs := xs) hok (by omega)
  have HPB : Hid (AreBytes (putB t p s d xs)) := putB_bd hz
  have HLEN : Hid ((putB t p s d xs).length = 20 + xs.length) := putB_length
  have HBY : Hid (Bts w ay ys) := hBy
  have HZY : Hid (AreBytes ys) := hzy
  have HNY : Hid (ay = none → cy = 0) := hnily
  have HX0 : Hid (Box (w.alloc (.cells #[.int .i64 t, .int .i64 p, .int .i64 s, .int .i64 d, .slice a xs.length cp] 24)) w.heap.size t p s d (.slice a xs.length cp)) := box_new w t p s d _
  clear hok hk hb0 hB hz hnil hE hBy hzy hnily
  generalize putB t p s d xs = zs at *
  go_enter Tryd.func7, Tryd.ntmps7
  go_wp2_with fail
  refine hput.mono ?_
  rintro e w1 ⟨g, gc, rfl, ho, hb1⟩
  clear hput
  have HO : Hid (Owns w1 w.heap.size g gc zs) := ho.base (by simp)
  have HX1 : Hid (Box w1 w.heap.size t p s d (.slice a xs.length cp)) := HX0.out.below hb1 (by simp)
  have HF1 : Hid (∀ i, w1.frozen? ⟨w.heap.size, i, none⟩ = false) := fun i => by rw [hb1.frozen (p := ⟨w.heap.size, i, none⟩) (by simp)]; simp
  have HB1 : Hid (Below w.heap.size w w1) := below_more HB0.out hb1 (by simp)
  clear ho hb1 HX0 HB0
  obtain ⟨m, hm, hml⟩ : ∃ m : Nat, x % (20 + (xs.length : Int)) = m ∧ m < 20 + xs.length := by
    have h1 := Int.emod_lt_of_pos x (show (0 : Int) < 20 + (xs.length : Int) by omega)
    have h0 := Int.emod_nonneg x (show (20 + (xs.length : Int)) ≠ 0 by omega)
    exact ⟨(x % (20 + (xs.length : Int))).toNat, by omega, by omega⟩
  have hgc : 20 + xs.length ≤ gc := by have := HO.out.cap; rw [HLEN.out] at this; exact this
  have hmgc : (m : Int) ≤ (gc : Int) := by omega
  go_wp2_with fail
  refine (num_any _ _).mono ?_
  rintro e w' ⟨rfl, rfl⟩
  go_wp2_with fail
  have hT : AreBytes (zs.take m) := areBytes_take HPB.out m
  have hget := get_any (some ⟨g, 0, none⟩) m gc (zs.take m) w' (by rw [List.length_take, HLEN.out]; omega) (HO.out.bts.take m) hT (by omega) (HE.out.below HB1.out (Nat.le_refl _))
  have hne := cut_none zs (areD HPB.out) (fun j => areD (areBytes_take HPB.out j)) HGE.out m (by rw [HLEN.out]; exact hml)
  refine hget.mono ?_
  rintro e w2 ⟨hG, hb2⟩
  clear hget hT
  rcases hG with ⟨h0, _⟩ | ⟨h0, rfl⟩
  · exact absurd h0 hne
  have k1 : (getE (zs.take m) != 0) = true := by simp [h0]
  clear hne h0
  generalize getE (zs.take m) = f at *
  have hbA := hb2.alloc hb2.size (.cells #[.int .i64 0, .int .i64 0, .int .i64 0, .int .i64 0, .slice none 0 0] 24)
  have HO2 : Hid (Owns (w2.alloc (.cells #[.int .i64 0, .int .i64 0, .int .i64 0, .int .i64 0, .slice none 0 0] 24)) w.heap.size g gc zs) := HO.out.below hbA
  have HX2 : Hid (Box (w2.alloc (.cells #[.int .i64 0, .int .i64 0, .int .i64 0, .int .i64 0, .slice none 0 0] 24)) w.heap.size t p s d (.slice a xs.length cp)) := HX1.out.below hbA HX1.out.lt
  have HF2 : Hid (∀ i, (w2.alloc (.cells #[.int .i64 0, .int .i64 0, .int .i64 0, .int .i64 0, .slice none 0 0] 24)).frozen? ⟨w.heap.size, i, none⟩ = false) := fun i => by rw [hbA.frozen (p := ⟨w.heap.size, i, none⟩) HX1.out.lt]; exact HF1.out i
  have HB2 : Hid (Below w.heap.size w (w2.alloc (.cells #[.int .i64 0, .int .i64 0, .int .i64 0, .int .i64 0, .slice none 0 0] 24))) := below_more HB1.out hbA HB1.out.size
  clear hb2 hbA HO HX1 HF1 HB1
  go_upto_region 7 with fail
  generalize w2.alloc (.cells #[.int .i64 0, .int .i64 0, .int .i64 0, .int .i64 0, .slice none 0 0] 24) = W at *
  go_wp2_with (at_builtin; go_must (refine wp_copy_bytes _ _ rfl rfl _ _ rfl rfl _ _ _ rfl zs HLEN.out.symm HO2.out.bts (by simp) (by have := HLEN.out; omega) ?_))
  intro g3 c3 w3 ho3 hb3
  have HX3 : Hid (Box w3 w.heap.size t p s d (.slice a xs.length cp)) := HX2.out.below hb3 HX2.out.lt
  have HF3 : Hid (∀ i, w3.frozen? ⟨w.heap.size, i, none⟩ = false) := fun i => by rw [hb3.frozen (p := ⟨w.heap.size, i, none⟩) HX2.out.lt]; exact HF2.out i
  have HB3 : Hid (Below w.heap.size w w3) := below_more HB2.out hb3 HB2.out.size
  have HL3 : Hid (w.heap.size < W.heap.size) := HX2.out.lt
  clear hb3 HX2 HF2 HB2 HO2
  go_wp2_with (at_builtin; go_must (refine wp_append_bytes _ rfl _ _ rfl W.heap.size g3 c3 zs _ rfl HLEN.out.symm ho3 _ _ _ rfl ys rfl (HBY.out.below HB3.out) HNY.out (by have := HLEN.out; omega) ho3.more ?_))
  intro g4 c4 w4 ho4 hg4
  have hb4 := grown_below ho3 hg4
  have HX4 : Hid (Box w4 w.heap.size t p s d (.slice a xs.length cp)) := HX3.out.below hb4 HL3.out
  have HF4 : Hid (∀ i, w4.frozen? ⟨w.heap.size, i, none⟩ = false) := fun i => by rw [hb4.frozen (p := ⟨w.heap.size, i, none⟩) HL3.out]; exact HF3.out i
  have HB4 : Hid (Below w.heap.size w w4) := HB3.out.trans (hb4.mono (Nat.le_of_lt HL3.out))
  have hZ4 : AreBytes (zs ++ ys) := areBytes_append HPB.out HZY.out
  have hget := get_any (some ⟨g4, 0, none⟩) (20 + xs.length + ys.length) c4 (zs ++ ys) w4 (by rw [List.length_append, HLEN.out]) ho4.bts hZ4 (by have := ho4.cap; rw [List.length_append, HLEN.out] at this; exact this) (HE.out.below HB4.out (Nat.le_refl _))
  have hmore := more_none zs ys (areD HPB.out) (areD hZ4) HGE.out (by intro e; rw [e] at h2; exact h2 rfl)
  clear ho3 ho4 hg4 hb4 hZ4 HX3 HF3 HB3 HL3
  go_wp2_with fail
  refine hget.mono ?_
  rintro e w5 ⟨hG, hb5⟩
  clear hget
  rcases hG with ⟨h0, _⟩ | ⟨h0, rfl⟩
  · rw [hmore] at h0; cases h0
  rw [hmore]
  clear hmore h0
  have hbA := hb5.alloc hb5.size (.cells #[.int .i64 0, .int .i64 0, .int .i64 0, .int .i64 0, .slice none 0 0] 24)
  have hX6 : Box (w5.alloc (.cells #[.int .i64 0, .int .i64 0, .int .i64 0, .int .i64 0, .slice none 0 0] 24)) w.heap.size t p s d (.slice a xs.length cp) := HX4.out.below hbA HX4.out.lt
  have hF6 : ∀ i, (w5.alloc (.cells #[.int .i64 0, .int .i64 0, .int .i64 0, .int .i64 0, .slice none 0 0] 24)).frozen? ⟨w.heap.size, i, none⟩ = false := fun i => by rw [hbA.frozen (p := ⟨w.heap.size, i, none⟩) HX4.out.lt]; exact HF4.out i
  have HB6 : Hid (Below w.heap.size w (w5.alloc (.cells #[.int .i64 0, .int .i64 0, .int .i64 0, .int .i64 0, .slice none 0 0] 24))) := below_more HB4.out hbA HB4.out.size
  clear hb5 hbA HX4 HF4 HB4
  go_upto_region 10 with fail
  generalize w5.alloc (.cells #[.int .i64 0, .int .i64 0, .int .i64 0, .int .i64 0, .slice none 0 0] 24) = V at *
  obtain ⟨C, hmk⟩ := make_run V x
  have hlt := hX6.lt
  have hVa : Below V.heap.size V (V.alloc (.cells C 5)) := below_new' _ _
  have hX7 : Box (V.alloc (.cells C 5)) w.heap.size t p s d (.slice a xs.length cp) := hX6.below hVa hlt
  have hF7 : ∀ i, (V.alloc (.cells C 5)).frozen? ⟨w.heap.size, i, none⟩ = false := fun i => by rw [hVa.frozen (p := ⟨w.heap.size, i, none⟩) hlt]; exact hF6 i
  have HB7 : Hid (Below w.heap.size w (V.alloc (.cells C 5))) := below_more HB6.out hVa HB6.out.size
  obtain ⟨x0, x1, x2, x3, x4⟩ := hX7
  clear hX6 hF6 hlt hVa
  go_upto_region 11 with fail
  have hn6 : 1024 < (1025 + x % 100).toNat := by omega
  generalize (1025 + x % 100).toNat = n6 at *
  have y0 := (cell_ne (V.alloc (.cells C 5)) (g := w.heap.size) (i := 4) (j := 0) (v := .slice (some ⟨V.heap.size, 0, none⟩) n6 n6) (by decide)).trans x0
  have y1 := (cell_ne (V.alloc (.cells C 5)) (g := w.heap.size) (i := 4) (j := 1) (v := .slice (some ⟨V.heap.size, 0, none⟩) n6 n6) (by decide)).trans x1
  have y2 := (cell_ne (V.alloc (.cells C 5)) (g := w.heap.size) (i := 4) (j := 2) (v := .slice (some ⟨V.heap.size, 0, none⟩) n6 n6) (by decide)).trans x2
  have y3 := (cell_ne (V.alloc (.cells C 5)) (g := w.heap.size) (i := 4) (j := 3) (v := .slice (some ⟨V.heap.size, 0, none⟩) n6 n6) (by decide)).trans x3
  have y4 := cell_eq (v := .slice (some ⟨V.heap.size, 0, none⟩) n6 n6) x4
  have hB8 : Below w.heap.size w ((V.alloc (.cells C 5)).setCell ⟨w.heap.size, 4, none⟩ (.slice (some ⟨V.heap.size, 0, none⟩) n6 n6)) := HB7.out.setCell (p := ⟨w.heap.size, 4, none⟩) (Nat.le_refl _) _
  have hput := put_bad t p s d (some ⟨V.heap.size, 0, none⟩) n6 n6 _ (HE.out.below hB8 (Nat.le_refl _)) 6 (putE_long t p s d n6 HOK.out hn6) (by decide)
  have HB8 : Hid (Below w.heap.size w ((V.alloc (.cells C 5)).setCell ⟨w.heap.size, 4, none⟩ (.slice (some ⟨V.heap.size, 0, none⟩) n6 n6))) := hB8
  clear hB8 x0 x1 x2 x3 x4 hmk
  generalize (V.alloc (.cells C 5)).setCell ⟨w.heap.size, 4, none⟩ (.slice (some ⟨V.heap.size, 0, none⟩) n6 n6) = X at *
  go_wp2_with fail
  refine hput.mono ?_
  rintro e w6 ⟨rfl, hb6⟩
  clear hput
  have HB9 : Hid (Below w.heap.size w w6) := below_more HB8.out hb6 HB8.out.size
  clear hb6 y0 y1 y2 y3 y4
  go_wp2_with fail
  refine (num_any _ _).mono ?_
  rintro e w' ⟨rfl, rfl⟩
  go_wp2_with fail
  refine (num_any _ _).mono ?_
  rintro e w' ⟨rfl, rfl⟩
  go_wp2_with fail
  refine (num_any _ _).mono ?_
  rintro e w' ⟨rfl, rfl⟩
  go_wp2_with fail
  refine (awake_any _).mono ?_
  rintro e w7 ⟨rfl, hb7⟩
  have HB10 : Hid (Below w.heap.size w w7) := below_more HB9.out hb7 HB9.out.size
  clear hb7
  go_wp2
  go_ret
  exact ⟨rfl, HB10.out⟩
end Go.Proofs.YtknpgpmckabmbaaDoor
