/- The walk of the law on texts that are no address's. -/
import Derived.Test.YtjnmaplkikbjjaaDoorP3
namespace Go.Proofs.YtjnmaplkikbjjaaDoor
open Go.RowKit

theorem read_no (s : ByteArray) (w : World) (E : Env w) (hs : s.data.toList.length ≤ 100) (hno : ∀ a, textL a ≠ s.data.toList) :
    Calls Tryd.prog 25 #[.string s] w fun e w' => e = .returned (.tuple #[.int .i64 0, .int .i64 3]) ∧ Below w.heap.size w w' := by
  have hsl : s.data.toList.length = s.size := by rw [Array.length_toList]; rfl
  refine (read_any s w E (by unfold maxLen; omega)).mono ?_
  rintro e w' ⟨x, y, rfl, hr, hb⟩
  obtain ⟨rfl, rfl⟩ := readIs_no hno hr
  exact ⟨rfl, hb⟩
theorem take_three (l : List UInt8) : ((⟨#[50, 53, 54, 46]⟩ : ByteArray) ++ (⟨l.toArray⟩ : ByteArray).extract 0 3).data.toList = [50, 53, 54, 46] ++ l.take 3 := by
  simp
set_option maxRecDepth 100000 in
set_option maxHeartbeats 1600000 in
theorem strict_0 (a b : Int) (w : World) (E : Env w) (ha0 : 0 ≤ a) (ha1 : a ≤ 4294967295) (hb0 : 0 ≤ b) (hb1 : b ≤ 255) (hq : b % 13 = 0) :
    Calls Tryd.prog 9 #[.int .u32 a, .int .u8 b] w fun e w' => e = .returned (.bool true) ∧ Below w.heap.size w w' := by
  have z7 := text_long a
  have z15 := textL_len a
  go_enter Tryd.func9, Tryd.ntmps9
  go_wp2_with fail
  refine (text_any _ _ E).mono ?_
  rintro e w1 ⟨rfl, hb1'⟩
  have E1 := E.below hb1' E.sz
  go_wp2_with fail
  refine (read_no _ _ (E1.below ((Below.refl _ _).alloc (Nat.le_refl _) _) E1.sz) (by simp; omega) (by have := no_0 a; simpa using this)).mono ?_
  rintro e w2 ⟨rfl, hb2'⟩
  have hB : Below w.heap.size w w2 := (hb1'.alloc hb1'.size _).trans (hb2'.mono (by have := hb1'.size; simp; omega))
  have E2 := E.below hB E.sz
  clear hb1' hb2'
  go_wp2_with fail
  refine (num_any _ _).mono ?_
  rintro e w' ⟨rfl, rfl⟩
  go_wp2_with fail
  refine (awake_any _ E2).mono ?_
  rintro e w6 ⟨rfl, hb6⟩
  go_wp2
  go_ret
  exact ⟨rfl, hB.trans (hb6.mono hB.size)⟩
set_option maxRecDepth 100000 in
set_option maxHeartbeats 1600000 in
theorem strict_1 (a b : Int) (w : World) (E : Env w) (ha0 : 0 ≤ a) (ha1 : a ≤ 4294967295) (hb0 : 0 ≤ b) (hb1 : b ≤ 255) (hq : b % 13 = 1) :
    Calls Tryd.prog 9 #[.int .u32 a, .int .u8 b] w fun e w' => e = .returned (.bool true) ∧ Below w.heap.size w w' := by
  have z7 := text_long a
  have z15 := textL_len a
  go_enter Tryd.func9, Tryd.ntmps9
  go_wp2_with fail
  refine (text_any _ _ E).mono ?_
  rintro e w1 ⟨rfl, hb1'⟩
  have E1 := E.below hb1' E.sz
  go_wp2_with fail
  refine (read_no _ _ (E1.below ((Below.refl _ _).alloc (Nat.le_refl _) _) E1.sz) (by simp; omega) (by have := no_1 a; simpa using this)).mono ?_
  rintro e w2 ⟨rfl, hb2'⟩
  have hB : Below w.heap.size w w2 := (hb1'.alloc hb1'.size _).trans (hb2'.mono (by have := hb1'.size; simp; omega))
  have E2 := E.below hB E.sz
  clear hb1' hb2'
  go_wp2_with fail
  refine (num_any _ _).mono ?_
  rintro e w' ⟨rfl, rfl⟩
  go_wp2_with fail
  refine (awake_any _ E2).mono ?_
  rintro e w6 ⟨rfl, hb6⟩
  go_wp2
  go_ret
  exact ⟨rfl, hB.trans (hb6.mono hB.size)⟩
set_option maxRecDepth 100000 in
set_option maxHeartbeats 1600000 in
theorem strict_2 (a b : Int) (w : World) (E : Env w) (ha0 : 0 ≤ a) (ha1 : a ≤ 4294967295) (hb0 : 0 ≤ b) (hb1 : b ≤ 255) (hq : b % 13 = 2) :
    Calls Tryd.prog 9 #[.int .u32 a, .int .u8 b] w fun e w' => e = .returned (.bool true) ∧ Below w.heap.size w w' := by
  have z7 := text_long a
  have z15 := textL_len a
  go_enter Tryd.func9, Tryd.ntmps9
  go_wp2_with fail
  refine (text_any _ _ E).mono ?_
  rintro e w1 ⟨rfl, hb1'⟩
  have E1 := E.below hb1' E.sz
  go_wp2_with fail
  refine (read_no _ _ (E1.below ((Below.refl _ _).alloc (Nat.le_refl _) _) E1.sz) (by simp; omega) (by have := no_2 a; simpa using this)).mono ?_
  rintro e w2 ⟨rfl, hb2'⟩
  have hB : Below w.heap.size w w2 := (hb1'.alloc hb1'.size _).trans (hb2'.mono (by have := hb1'.size; simp; omega))
  have E2 := E.below hB E.sz
  clear hb1' hb2'
  go_wp2_with fail
  refine (num_any _ _).mono ?_
  rintro e w' ⟨rfl, rfl⟩
  go_wp2_with fail
  refine (awake_any _ E2).mono ?_
  rintro e w6 ⟨rfl, hb6⟩
  go_wp2
  go_ret
  exact ⟨rfl, hB.trans (hb6.mono hB.size)⟩
set_option maxRecDepth 100000 in
set_option maxHeartbeats 1600000 in
theorem strict_3 (a b : Int) (w : World) (E : Env w) (ha0 : 0 ≤ a) (ha1 : a ≤ 4294967295) (hb0 : 0 ≤ b) (hb1 : b ≤ 255) (hq : b % 13 = 3) :
    Calls Tryd.prog 9 #[.int .u32 a, .int .u8 b] w fun e w' => e = .returned (.bool true) ∧ Below w.heap.size w w' := by
  have z7 := text_long a
  have z15 := textL_len a
  go_enter Tryd.func9, Tryd.ntmps9
  go_wp2_with fail
  refine (text_any _ _ E).mono ?_
  rintro e w1 ⟨rfl, hb1'⟩
  have E1 := E.below hb1' E.sz
  go_wp2_with fail
  refine (read_no _ _ (E1.below ((Below.refl _ _).alloc (Nat.le_refl _) _) E1.sz) (by simp; omega) (by have := no_3 a; simpa using this)).mono ?_
  rintro e w2 ⟨rfl, hb2'⟩
  have hB : Below w.heap.size w w2 := (hb1'.alloc hb1'.size _).trans (hb2'.mono (by have := hb1'.size; simp; omega))
  have E2 := E.below hB E.sz
  clear hb1' hb2'
  go_wp2_with fail
  refine (num_any _ _).mono ?_
  rintro e w' ⟨rfl, rfl⟩
  go_wp2_with fail
  refine (awake_any _ E2).mono ?_
  rintro e w6 ⟨rfl, hb6⟩
  go_wp2
  go_ret
  exact ⟨rfl, hB.trans (hb6.mono hB.size)⟩
set_option maxRecDepth 100000 in
set_option maxHeartbeats 1600000 in
theorem strict_4 (a b : Int) (w : World) (E : Env w) (ha0 : 0 ≤ a) (ha1 : a ≤ 4294967295) (hb0 : 0 ≤ b) (hb1 : b ≤ 255) (hq : b % 13 = 4) :
    Calls Tryd.prog 9 #[.int .u32 a, .int .u8 b] w fun e w' => e = .returned (.bool true) ∧ Below w.heap.size w w' := by
  have z7 := text_long a
  have z15 := textL_len a
  go_enter Tryd.func9, Tryd.ntmps9
  go_wp2_with fail
  refine (text_any _ _ E).mono ?_
  rintro e w1 ⟨rfl, hb1'⟩
  have E1 := E.below hb1' E.sz
  go_wp2_with fail
  refine (read_no _ _ (E1.below ((Below.refl _ _).alloc (Nat.le_refl _) _) E1.sz) (by simp; omega) (by have := no_4 a; simpa using this)).mono ?_
  rintro e w2 ⟨rfl, hb2'⟩
  have hB : Below w.heap.size w w2 := (hb1'.alloc hb1'.size _).trans (hb2'.mono (by have := hb1'.size; simp; omega))
  have E2 := E.below hB E.sz
  clear hb1' hb2'
  go_wp2_with fail
  refine (num_any _ _).mono ?_
  rintro e w' ⟨rfl, rfl⟩
  go_wp2_with fail
  refine (awake_any _ E2).mono ?_
  rintro e w6 ⟨rfl, hb6⟩
  go_wp2
  go_ret
  exact ⟨rfl, hB.trans (hb6.mono hB.size)⟩
set_option maxRecDepth 100000 in
set_option maxHeartbeats 1600000 in
theorem strict_5 (a b : Int) (w : World) (E : Env w) (ha0 : 0 ≤ a) (ha1 : a ≤ 4294967295) (hb0 : 0 ≤ b) (hb1 : b ≤ 255) (hq : b % 13 = 5) :
    Calls Tryd.prog 9 #[.int .u32 a, .int .u8 b] w fun e w' => e = .returned (.bool true) ∧ Below w.heap.size w w' := by
  have z7 := text_long a
  have z15 := textL_len a
  go_enter Tryd.func9, Tryd.ntmps9
  go_wp2_with fail
  refine (text_any _ _ E).mono ?_
  rintro e w1 ⟨rfl, hb1'⟩
  have E1 := E.below hb1' E.sz
  go_wp2_with fail
  refine (read_no _ _ (E1.below ((Below.refl _ _).alloc (Nat.le_refl _) _) E1.sz) (by simp; omega) (by have := no_5 a; simpa using this)).mono ?_
  rintro e w2 ⟨rfl, hb2'⟩
  have hB : Below w.heap.size w w2 := (hb1'.alloc hb1'.size _).trans (hb2'.mono (by have := hb1'.size; simp; omega))
  have E2 := E.below hB E.sz
  clear hb1' hb2'
  go_wp2_with fail
  refine (num_any _ _).mono ?_
  rintro e w' ⟨rfl, rfl⟩
  go_wp2_with fail
  refine (awake_any _ E2).mono ?_
  rintro e w6 ⟨rfl, hb6⟩
  go_wp2
  go_ret
  exact ⟨rfl, hB.trans (hb6.mono hB.size)⟩
set_option maxRecDepth 100000 in
set_option maxHeartbeats 1600000 in
theorem strict_6 (a b : Int) (w : World) (E : Env w) (ha0 : 0 ≤ a) (ha1 : a ≤ 4294967295) (hb0 : 0 ≤ b) (hb1 : b ≤ 255) (hq : b % 13 = 6) :
    Calls Tryd.prog 9 #[.int .u32 a, .int .u8 b] w fun e w' => e = .returned (.bool true) ∧ Below w.heap.size w w' := by
  have z7 := text_long a
  have z15 := textL_len a
  go_enter Tryd.func9, Tryd.ntmps9
  go_wp2_with fail
  refine (text_any _ _ E).mono ?_
  rintro e w1 ⟨rfl, hb1'⟩
  have E1 := E.below hb1' E.sz
  go_wp2_with fail
  refine (read_no _ _ (E1.below ((Below.refl _ _).alloc (Nat.le_refl _) _) E1.sz) (by rw [take_three]; simp; omega) (by rw [take_three]; exact no_6 ((textL a).take 3))).mono ?_
  rintro e w2 ⟨rfl, hb2'⟩
  have hB : Below w.heap.size w w2 := (hb1'.alloc hb1'.size _).trans (hb2'.mono (by have := hb1'.size; simp; omega))
  have E2 := E.below hB E.sz
  clear hb1' hb2'
  go_wp2_with fail
  refine (num_any _ _).mono ?_
  rintro e w' ⟨rfl, rfl⟩
  go_wp2_with fail
  refine (awake_any _ E2).mono ?_
  rintro e w6 ⟨rfl, hb6⟩
  go_wp2
  go_ret
  exact ⟨rfl, hB.trans (hb6.mono hB.size)⟩
set_option maxRecDepth 100000 in
set_option maxHeartbeats 1600000 in
theorem strict_7 (a b : Int) (w : World) (E : Env w) (ha0 : 0 ≤ a) (ha1 : a ≤ 4294967295) (hb0 : 0 ≤ b) (hb1 : b ≤ 255) (hq : b % 13 = 7) :
    Calls Tryd.prog 9 #[.int .u32 a, .int .u8 b] w fun e w' => e = .returned (.bool true) ∧ Below w.heap.size w w' := by
  have z7 := text_long a
  have z15 := textL_len a
  go_enter Tryd.func9, Tryd.ntmps9
  go_wp2_with fail
  refine (text_any _ _ E).mono ?_
  rintro e w1 ⟨rfl, hb1'⟩
  have E1 := E.below hb1' E.sz
  go_wp2_with fail
  refine (read_no _ _ (E1.below ((Below.refl _ _).alloc (Nat.le_refl _) _) E1.sz) (by decide) (no_7)).mono ?_
  rintro e w2 ⟨rfl, hb2'⟩
  have hB : Below w.heap.size w w2 := (hb1'.alloc hb1'.size _).trans (hb2'.mono (by have := hb1'.size; simp; omega))
  have E2 := E.below hB E.sz
  clear hb1' hb2'
  go_wp2_with fail
  refine (num_any _ _).mono ?_
  rintro e w' ⟨rfl, rfl⟩
  go_wp2_with fail
  refine (awake_any _ E2).mono ?_
  rintro e w6 ⟨rfl, hb6⟩
  go_wp2
  go_ret
  exact ⟨rfl, hB.trans (hb6.mono hB.size)⟩
set_option maxRecDepth 100000 in
set_option maxHeartbeats 1600000 in
theorem strict_8 (a b : Int) (w : World) (E : Env w) (ha0 : 0 ≤ a) (ha1 : a ≤ 4294967295) (hb0 : 0 ≤ b) (hb1 : b ≤ 255) (hq : b % 13 = 8) :
    Calls Tryd.prog 9 #[.int .u32 a, .int .u8 b] w fun e w' => e = .returned (.bool true) ∧ Below w.heap.size w w' := by
  have z7 := text_long a
  have z15 := textL_len a
  go_enter Tryd.func9, Tryd.ntmps9
  go_wp2_with fail
  refine (text_any _ _ E).mono ?_
  rintro e w1 ⟨rfl, hb1'⟩
  have E1 := E.below hb1' E.sz
  go_wp2_with fail
  refine (read_no _ _ (E1.below ((Below.refl _ _).alloc (Nat.le_refl _) _) E1.sz) (by decide) (no_8)).mono ?_
  rintro e w2 ⟨rfl, hb2'⟩
  have hB : Below w.heap.size w w2 := (hb1'.alloc hb1'.size _).trans (hb2'.mono (by have := hb1'.size; simp; omega))
  have E2 := E.below hB E.sz
  clear hb1' hb2'
  go_wp2_with fail
  refine (num_any _ _).mono ?_
  rintro e w' ⟨rfl, rfl⟩
  go_wp2_with fail
  refine (awake_any _ E2).mono ?_
  rintro e w6 ⟨rfl, hb6⟩
  go_wp2
  go_ret
  exact ⟨rfl, hB.trans (hb6.mono hB.size)⟩
set_option maxRecDepth 100000 in
set_option maxHeartbeats 1600000 in
theorem strict_9 (a b : Int) (w : World) (E : Env w) (ha0 : 0 ≤ a) (ha1 : a ≤ 4294967295) (hb0 : 0 ≤ b) (hb1 : b ≤ 255) (hq : b % 13 = 9) :
    Calls Tryd.prog 9 #[.int .u32 a, .int .u8 b] w fun e w' => e = .returned (.bool true) ∧ Below w.heap.size w w' := by
  have z7 := text_long a
  have z15 := textL_len a
  go_enter Tryd.func9, Tryd.ntmps9
  go_wp2_with fail
  refine (text_any _ _ E).mono ?_
  rintro e w1 ⟨rfl, hb1'⟩
  have E1 := E.below hb1' E.sz
  go_wp2_with fail
  refine (read_no _ _ (E1.below ((Below.refl _ _).alloc (Nat.le_refl _) _) E1.sz) (by decide) (no_9)).mono ?_
  rintro e w2 ⟨rfl, hb2'⟩
  have hB : Below w.heap.size w w2 := (hb1'.alloc hb1'.size _).trans (hb2'.mono (by have := hb1'.size; simp; omega))
  have E2 := E.below hB E.sz
  clear hb1' hb2'
  go_wp2_with fail
  refine (num_any _ _).mono ?_
  rintro e w' ⟨rfl, rfl⟩
  go_wp2_with fail
  refine (awake_any _ E2).mono ?_
  rintro e w6 ⟨rfl, hb6⟩
  go_wp2
  go_ret
  exact ⟨rfl, hB.trans (hb6.mono hB.size)⟩
set_option maxRecDepth 100000 in
set_option maxHeartbeats 1600000 in
theorem strict_10 (a b : Int) (w : World) (E : Env w) (ha0 : 0 ≤ a) (ha1 : a ≤ 4294967295) (hb0 : 0 ≤ b) (hb1 : b ≤ 255) (hq : b % 13 = 10) :
    Calls Tryd.prog 9 #[.int .u32 a, .int .u8 b] w fun e w' => e = .returned (.bool true) ∧ Below w.heap.size w w' := by
  have z7 := text_long a
  have z15 := textL_len a
  go_enter Tryd.func9, Tryd.ntmps9
  go_wp2_with fail
  refine (text_any _ _ E).mono ?_
  rintro e w1 ⟨rfl, hb1'⟩
  have E1 := E.below hb1' E.sz
  go_wp2_with fail
  refine (read_no _ _ (E1.below ((Below.refl _ _).alloc (Nat.le_refl _) _) E1.sz) (by decide) (no_10)).mono ?_
  rintro e w2 ⟨rfl, hb2'⟩
  have hB : Below w.heap.size w w2 := (hb1'.alloc hb1'.size _).trans (hb2'.mono (by have := hb1'.size; simp; omega))
  have E2 := E.below hB E.sz
  clear hb1' hb2'
  go_wp2_with fail
  refine (num_any _ _).mono ?_
  rintro e w' ⟨rfl, rfl⟩
  go_wp2_with fail
  refine (awake_any _ E2).mono ?_
  rintro e w6 ⟨rfl, hb6⟩
  go_wp2
  go_ret
  exact ⟨rfl, hB.trans (hb6.mono hB.size)⟩
set_option maxRecDepth 100000 in
set_option maxHeartbeats 1600000 in
theorem strict_11 (a b : Int) (w : World) (E : Env w) (ha0 : 0 ≤ a) (ha1 : a ≤ 4294967295) (hb0 : 0 ≤ b) (hb1 : b ≤ 255) (hq : b % 13 = 11) :
    Calls Tryd.prog 9 #[.int .u32 a, .int .u8 b] w fun e w' => e = .returned (.bool true) ∧ Below w.heap.size w w' := by
  have z7 := text_long a
  have z15 := textL_len a
  go_enter Tryd.func9, Tryd.ntmps9
  go_wp2_with fail
  refine (text_any _ _ E).mono ?_
  rintro e w1 ⟨rfl, hb1'⟩
  have E1 := E.below hb1' E.sz
  go_wp2_with fail
  refine (read_no _ _ (E1.below ((Below.refl _ _).alloc (Nat.le_refl _) _) E1.sz) (by decide) (no_11)).mono ?_
  rintro e w2 ⟨rfl, hb2'⟩
  have hB : Below w.heap.size w w2 := (hb1'.alloc hb1'.size _).trans (hb2'.mono (by have := hb1'.size; simp; omega))
  have E2 := E.below hB E.sz
  clear hb1' hb2'
  go_wp2_with fail
  refine (num_any _ _).mono ?_
  rintro e w' ⟨rfl, rfl⟩
  go_wp2_with fail
  refine (awake_any _ E2).mono ?_
  rintro e w6 ⟨rfl, hb6⟩
  go_wp2
  go_ret
  exact ⟨rfl, hB.trans (hb6.mono hB.size)⟩
set_option maxRecDepth 100000 in
set_option maxHeartbeats 1600000 in
theorem strict_12 (a b : Int) (w : World) (E : Env w) (ha0 : 0 ≤ a) (ha1 : a ≤ 4294967295) (hb0 : 0 ≤ b) (hb1 : b ≤ 255) (hq : b % 13 = 12) :
    Calls Tryd.prog 9 #[.int .u32 a, .int .u8 b] w fun e w' => e = .returned (.bool true) ∧ Below w.heap.size w w' := by
  have z7 := text_long a
  have z15 := textL_len a
  go_enter Tryd.func9, Tryd.ntmps9
  go_wp2_with fail
  refine (text_any _ _ E).mono ?_
  rintro e w1 ⟨rfl, hb1'⟩
  have E1 := E.below hb1' E.sz
  go_wp2_with fail
  refine (read_no _ _ (E1.below ((Below.refl _ _).alloc (Nat.le_refl _) _) E1.sz) (by decide) (no_12)).mono ?_
  rintro e w2 ⟨rfl, hb2'⟩
  have hB : Below w.heap.size w w2 := (hb1'.alloc hb1'.size _).trans (hb2'.mono (by have := hb1'.size; simp; omega))
  have E2 := E.below hB E.sz
  clear hb1' hb2'
  go_wp2_with fail
  refine (num_any _ _).mono ?_
  rintro e w' ⟨rfl, rfl⟩
  go_wp2_with fail
  refine (awake_any _ E2).mono ?_
  rintro e w6 ⟨rfl, hb6⟩
  go_wp2
  go_ret
  exact ⟨rfl, hB.trans (hb6.mono hB.size)⟩
theorem strict_law (a b : Int) (w : World) (E : Env w) (ha0 : 0 ≤ a) (ha1 : a ≤ 4294967295) (hb0 : 0 ≤ b) (hb1 : b ≤ 255) :
    Calls Tryd.prog 9 #[.int .u32 a, .int .u8 b] w fun e w' => e = .returned (.bool true) ∧ Below w.heap.size w w' := by
  by_cases h0 : b % 13 = 0
  · exact strict_0 a b w E ha0 ha1 hb0 hb1 h0
  by_cases h1 : b % 13 = 1
  · exact strict_1 a b w E ha0 ha1 hb0 hb1 h1
  by_cases h2 : b % 13 = 2
  · exact strict_2 a b w E ha0 ha1 hb0 hb1 h2
  by_cases h3 : b % 13 = 3
  · exact strict_3 a b w E ha0 ha1 hb0 hb1 h3
  by_cases h4 : b % 13 = 4
  · exact strict_4 a b w E ha0 ha1 hb0 hb1 h4
  by_cases h5 : b % 13 = 5
  · exact strict_5 a b w E ha0 ha1 hb0 hb1 h5
  by_cases h6 : b % 13 = 6
  · exact strict_6 a b w E ha0 ha1 hb0 hb1 h6
  by_cases h7 : b % 13 = 7
  · exact strict_7 a b w E ha0 ha1 hb0 hb1 h7
  by_cases h8 : b % 13 = 8
  · exact strict_8 a b w E ha0 ha1 hb0 hb1 h8
  by_cases h9 : b % 13 = 9
  · exact strict_9 a b w E ha0 ha1 hb0 hb1 h9
  by_cases h10 : b % 13 = 10
  · exact strict_10 a b w E ha0 ha1 hb0 hb1 h10
  by_cases h11 : b % 13 = 11
  · exact strict_11 a b w E ha0 ha1 hb0 hb1 h11
  by_cases h12 : b % 13 = 12
  · exact strict_12 a b w E ha0 ha1 hb0 hb1 h12
  omega
end Go.Proofs.YtjnmaplkikbjjaaDoor
