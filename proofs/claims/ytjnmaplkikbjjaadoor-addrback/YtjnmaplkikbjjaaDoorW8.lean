/- The statements' own walks: each returns true, whatever it is given. -/
import Derived.Test.YtjnmaplkikbjjaaDoorW7
namespace Go.Proofs.YtjnmaplkikbjjaaDoor
open Go.RowKit

theorem text_five : textL 3758096389 = [50, 50, 52, 46, 48, 46, 48, 46, 53] := by rw [textL_d3]; decide +kernel
theorem readIs_five (x y : Int) (h : ReadIs [50, 50, 52, 46, 48, 46, 48, 46, 53] x y) : x = 3758096389 ∧ y = 0 :=
  h.same (Or.inl ⟨rfl, by omega, text_five⟩)

set_option maxRecDepth 100000 in
set_option maxHeartbeats 1600000 in
theorem awake_any (w : World) (E : Env w) :
    Calls Tryd.prog 24 #[] w fun e w' => e = .returned (.bool true) ∧ Below w.heap.size w w' := by
  have t5 : ((textL 3758096389) == [50, 50, 52, 46, 48, 46, 48, 46, 53]) = true := by rw [text_five]; rfl
  have r0 : rightB 0 = true := by decide
  go_enter Tryd.func24, Tryd.ntmps24
  go_wp2_with fail
  refine (read_any ⟨#[50, 50, 52, 46, 48, 46, 48, 46, 53]⟩ w E (by decide)).mono ?_
  rintro e w1 ⟨x, y, rfl, hr, hb1⟩
  obtain ⟨rfl, rfl⟩ := readIs_five x y hr
  clear hr
  have E1 := E.below hb1 E.sz
  go_wp2_with fail
  refine (text_any _ _ E1).mono ?_
  rintro e w2 ⟨rfl, hb2⟩
  have hb := hb1.trans (hb2.mono hb1.size)
  go_wp2_with (first | (go_at_call 27; refine (num_any _ _).mono ?_; rintro e w' ⟨rfl, rfl⟩) | (go_at_call 10; refine (right_any _ _).mono ?_; rintro e w' ⟨rfl, rfl⟩))
  go_ret
  exact ⟨rfl, hb⟩

set_option maxRecDepth 100000 in
set_option maxHeartbeats 1600000 in
theorem all_law (a b n : Int) (w : World) (E : Env w) :
    Calls Tryd.prog 3 #[.int .i64 a, .int .i64 b, .int .i64 n] w fun e w' => e = .returned (.bool true) ∧ Below w.heap.size w w' := by
  go_enter Tryd.func3, Tryd.ntmps3
  go_wp2_with fail
  refine (right_any _ _).mono ?_
  rintro e w' ⟨rfl, rfl⟩
  go_wp2_with fail
  refine (rright_any _ _).mono ?_
  rintro e w' ⟨rfl, rfl⟩
  go_wp2_with fail
  refine (mask_any _ _).mono ?_
  rintro e w' ⟨rfl, rfl⟩
  go_wp2_with fail
  refine (rmask_any _ _).mono ?_
  rintro e w' ⟨rfl, rfl⟩
  go_wp2_with fail
  refine (net_any _ _ _).mono ?_
  rintro e w' ⟨rfl, rfl⟩
  go_wp2_with fail
  refine (rnet_any _ _ _).mono ?_
  rintro e w' ⟨rfl, rfl⟩
  go_wp2_with fail
  refine (in_any _ _ _ _).mono ?_
  rintro e w' ⟨rfl, rfl⟩
  go_wp2_with fail
  refine (rin_any _ _ _ _).mono ?_
  rintro e w' ⟨rfl, rfl⟩
  go_wp2_with fail
  refine (bits_any _ _).mono ?_
  rintro e w' ⟨rfl, rfl⟩
  go_wp2_with fail
  refine (rbits_any _ _).mono ?_
  rintro e w' ⟨rfl, rfl⟩
  go_wp2_with fail
  refine (multi_any _ _).mono ?_
  rintro e w' ⟨rfl, rfl⟩
  go_wp2_with fail
  refine (rmulti_any _ _).mono ?_
  rintro e w' ⟨rfl, rfl⟩
  go_wp2_with fail
  refine (text_any _ _ E).mono ?_
  rintro e w1 ⟨rfl, hb1⟩
  go_wp2_with fail
  refine (rtext_any _ _).mono ?_
  rintro e w2 ⟨rfl, hb2⟩
  have hb := hb1.trans (hb2.mono hb1.size)
  have E2 := E.below hb E.sz
  go_wp2_with fail
  refine (awake_any _ E2).mono ?_
  rintro e w3 ⟨rfl, hb3⟩
  go_wp2
  go_ret
  exact ⟨rfl, hb.trans (hb3.mono hb.size)⟩

set_option maxRecDepth 100000 in
set_option maxHeartbeats 1600000 in
theorem reads_law (s : ByteArray) (w : World) (E : Env w) (hs : s.size ≤ maxLen) :
    Calls Tryd.prog 4 #[.string s] w fun e w' => e = .returned (.bool true) ∧ Below w.heap.size w w' := by
  by_cases hl : 100 < s.size
  · have hs' := hs
    unfold maxLen at hs'
    go_enter Tryd.func4, Tryd.ntmps4
    go_wp2_with fail
    refine (awake_any _ E).mono ?_
    rintro e w3 ⟨rfl, hb3⟩
    go_wp2
    go_ret
    exact ⟨rfl, hb3⟩
  · go_enter Tryd.func4, Tryd.ntmps4
    go_wp2_with fail
    refine (read_any s _ E hs).mono ?_
    rintro e w1 ⟨x, y, rfl, hr1, hb1⟩
    go_wp2_with fail
    refine (rread_any s _ (by omega)).mono ?_
    rintro e w2 ⟨x', y', rfl, hr2, hb2⟩
    obtain ⟨rfl, rfl⟩ := hr1.same hr2
    clear hr1 hr2
    have hb := hb1.trans (hb2.mono hb1.size)
    have E2 := E.below hb E.sz
    go_wp2_with fail
    refine (num_any _ _).mono ?_
    rintro e w' ⟨rfl, rfl⟩
    go_wp2_with fail
    refine (awake_any _ E2).mono ?_
    rintro e w3 ⟨rfl, hb3⟩
    go_wp2
    go_ret
    exact ⟨rfl, hb.trans (hb3.mono hb.size)⟩

theorem readIs_text (a x y : Int) (h0 : 0 ≤ a) (h1 : a ≤ 4294967295) (h : ReadIs (textL a) x y) : x = a ∧ y = 0 := h.same (Or.inl ⟨rfl, ⟨h0, h1⟩, rfl⟩)
theorem text_beq (a b : Int) (h0 : 0 ≤ a) (h1 : a ≤ 4294967295) (b0 : 0 ≤ b) (b1 : b ≤ 4294967295) : (textL a == textL b) = (a == b) := by
  rw [Bool.eq_iff_iff]
  simp
  exact ⟨fun h => text_inj a b ⟨h0, h1⟩ ⟨b0, b1⟩ h, fun h => by rw [h]⟩

set_option maxRecDepth 100000 in
set_option maxHeartbeats 1600000 in
theorem back_law (a b : Int) (w : World) (E : Env w) (h0 : 0 ≤ a) (h1 : a ≤ 4294967295) (b0 : 0 ≤ b) (b1 : b ≤ 4294967295) :
    Calls Tryd.prog 5 #[.int .u32 a, .int .u32 b] w fun e w' => e = .returned (.bool true) ∧ Below w.heap.size w w' := by
  have ht := text_beq a b h0 h1 b0 b1
  go_enter Tryd.func5, Tryd.ntmps5
  go_wp2_with fail
  refine (text_any _ _ E).mono ?_
  rintro e w1 ⟨rfl, hb1⟩
  have E1 := E.below hb1 E.sz
  go_wp2_with fail
  refine (read_any _ _ E1 (by have := textL_len a; simp [ByteArray.size, maxLen]; omega)).mono ?_
  rintro e w2 ⟨x, y, rfl, hr1, hb2⟩
  obtain ⟨rfl, rfl⟩ := readIs_text a x y h0 h1 (by simpa using hr1)
  clear hr1
  have hb12 := hb1.trans (hb2.mono hb1.size)
  have E2 := E.below hb12 E.sz
  go_wp2_with fail
  refine (num_any _ _).mono ?_
  rintro e w' ⟨rfl, rfl⟩
  go_wp2_with fail
  refine (text_any _ _ E2).mono ?_
  rintro e w3 ⟨rfl, hb3⟩
  have hb13 := hb12.trans (hb3.mono hb12.size)
  have E3 := E.below hb13 E.sz
  go_wp2_with fail
  refine (text_any _ _ E3).mono ?_
  rintro e w4 ⟨rfl, hb4⟩
  have hb14 := hb13.trans (hb4.mono hb13.size)
  have E4 := E.below hb14 E.sz
  go_wp2_with fail
  refine (awake_any _ E4).mono ?_
  rintro e w5 ⟨rfl, hb5⟩
  go_wp2
  go_ret
  exact ⟨rfl, hb14.trans (hb5.mono hb14.size)⟩
end Go.Proofs.YtjnmaplkikbjjaaDoor
