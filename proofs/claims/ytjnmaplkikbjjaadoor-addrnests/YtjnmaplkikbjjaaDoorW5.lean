/- Contracts of the document's Text, and of the statements' own helpers. -/
import Derived.Test.YtjnmaplkikbjjaaDoorW4
namespace Go.Proofs.YtjnmaplkikbjjaaDoor
open Go.RowKit

theorem itoa_nat (n : Int) (h : 0 ≤ n) : Lib.itoa n = Lib.decDigits n.toNat := by unfold Lib.itoa; rw [if_neg (by omega)]
theorem dec_len (n : Int) (h0 : 0 ≤ n) (h1 : n < 1000) : (Lib.decDigits n.toNat).length ≤ 3 := by rw [← itoa_nat n h0]; exact itoa_len n h0 h1
theorem textL_eq (a : Int) : textL a = Lib.decDigits (a / 16777216 % 256).toNat ++ 46 :: (Lib.decDigits (a / 65536 % 256).toNat ++ 46 :: (Lib.decDigits (a / 256 % 256).toNat ++ 46 :: Lib.decDigits (a % 256).toNat)) := by
  rw [← itoa_nat _ (by omega), ← itoa_nat _ (by omega), ← itoa_nat _ (by omega), ← itoa_nat _ (by omega)]
  unfold textL
  simp [Lib.join_cons, Lib.joinTail, partS, byt]

set_option maxRecDepth 100000 in
set_option maxHeartbeats 1600000 in
theorem rtext_any (a : Int) (w : World) :
    Calls Tryd.prog 23 #[.int .i64 a] w fun e w' => e = .returned (.string ⟨(textL a).toArray⟩) ∧ Below w.heap.size w w' := by
  have z0 := dec_len (a / 16777216 % 256) (by omega) (by omega)
  have z1 := dec_len (a / 65536 % 256) (by omega) (by omega)
  have z2 := dec_len (a / 256 % 256) (by omega) (by omega)
  have z3 := dec_len (a % 256) (by omega) (by omega)
  go_enter Tryd.func23, Tryd.ntmps23
  go_wp2_with fail
  rw [and_255]
  refine (digits_any _ _ (by omega) (by omega)).mono ?_
  rintro e w1 ⟨rfl, hb1⟩
  go_wp2_with fail
  rw [and_255]
  refine (digits_any _ _ (by omega) (by omega)).mono ?_
  rintro e w2 ⟨rfl, hb2⟩
  go_wp2_with fail
  rw [and_255]
  refine (digits_any _ _ (by omega) (by omega)).mono ?_
  rintro e w3 ⟨rfl, hb3⟩
  go_wp2_with fail
  rw [and_255]
  refine (digits_any _ _ (by omega) (by omega)).mono ?_
  rintro e w4 ⟨rfl, hb4⟩
  go_wp2
  go_ret
  exact ⟨ret_str (by rw [textL_eq]; apply ByteArray.ext; simp), ((hb1.trans (hb2.mono hb1.size)).trans (hb3.mono (Nat.le_trans hb1.size hb2.size))).trans (hb4.mono (Nat.le_trans (Nat.le_trans hb1.size hb2.size) hb3.size))⟩

theorem convs_two (W : World) (o : Obj) (x : Int) (h0 : 0 ≤ x) (h1 : x < 256) :
    Sem.run Tryd.prog (convert 53 9 (.slice (some ⟨W.heap.size + 1, 0, none⟩) 1 1)) ((W.alloc o).alloc (.cells #[.int .u8 x] 5)) = .ok (.string ⟨#[UInt8.ofNat x.toNat]⟩) ((W.alloc o).alloc (.cells #[.int .u8 x] 5)) :=
  conv_any _ _ x (by simp) h0 h1
theorem convs_three (W : World) (o o' : Obj) (x : Int) (h0 : 0 ≤ x) (h1 : x < 256) :
    Sem.run Tryd.prog (convert 53 9 (.slice (some ⟨W.heap.size + 1 + 1, 0, none⟩) 1 1)) (((W.alloc o).alloc o').alloc (.cells #[.int .u8 x] 5)) = .ok (.string ⟨#[UInt8.ofNat x.toNat]⟩) (((W.alloc o).alloc o').alloc (.cells #[.int .u8 x] 5)) :=
  conv_any _ _ x (by
    have := conv_cell ((W.alloc o).alloc o') x
    simpa using this) h0 h1
theorem three_text2 (n : Int) (h0 : 10 ≤ n) (h1 : n < 100) : (⟨#[UInt8.ofNat (48 + n / 10 % 10).toNat]⟩ ++ ⟨#[UInt8.ofNat (48 + n % 10).toNat]⟩ : ByteArray) = ⟨(Lib.decDigits n.toNat).toArray⟩ := by
  rw [Lib.decDigits_two (by omega) (by omega), show (48 + n / 10 % 10).toNat = 48 + n.toNat / 10 by omega, show (48 + n % 10).toNat = 48 + n.toNat % 10 by omega]
  apply ByteArray.ext; simp
theorem three_text3 (n : Int) (h0 : 100 ≤ n) (h1 : n < 256) : (⟨#[UInt8.ofNat (48 + n / 100).toNat]⟩ ++ (⟨#[UInt8.ofNat (48 + n / 10 % 10).toNat]⟩ ++ ⟨#[UInt8.ofNat (48 + n % 10).toNat]⟩) : ByteArray) = ⟨(Lib.decDigits n.toNat).toArray⟩ := by
  rw [Lib.decDigits, dif_neg (by omega), Lib.decDigits_two (by omega) (by omega), show (48 + n / 100).toNat = 48 + n.toNat / 10 / 10 by omega, show (48 + n / 10 % 10).toNat = 48 + n.toNat / 10 % 10 by omega, show (48 + n % 10).toNat = 48 + n.toNat % 10 by omega]
  apply ByteArray.ext; simp
set_option maxRecDepth 100000 in
set_option maxHeartbeats 1600000 in
theorem three_any (n : Int) (w : World) (h0 : 0 ≤ n) (h1 : n < 256) :
    Calls Tryd.prog 28 #[.int .u8 n] w fun e w' => e = .returned (.string ⟨(Lib.decDigits n.toNat).toArray⟩) ∧ Below w.heap.size w w' := by
  have c1 := conv_one w (48 + n % 10) (by omega) (by omega)
  by_cases a : n < 10
  · go_enter Tryd.func28, Tryd.ntmps28
    go_wp2
    go_ret
    exact ⟨ret_str (by rw [Lib.decDigits_one (by omega), show (48 + n % 10).toNat = 48 + n.toNat by omega]), (Below.refl _ _).alloc (Nat.le_refl _) _⟩
  · have c2 := fun W o => convs_two W o (48 + n / 10 % 10) (by omega) (by omega)
    by_cases b : n < 100
    · go_enter Tryd.func28, Tryd.ntmps28
      go_wp2
      go_ret
      exact ⟨ret_str (three_text2 n (by omega) b), Joins.below_alloc2 _ _ _⟩
    · have c3 := fun W o o' => convs_three W o o' (48 + n / 100) (by omega) (by omega)
      go_enter Tryd.func28, Tryd.ntmps28
      go_wp2
      go_ret
      exact ⟨ret_str (three_text3 n (by omega) h1), Joins.below_alloc3 _ _ _ _⟩
theorem num_any (n : Int) (w : World) :
    Calls Tryd.prog 27 #[.int .i64 n] w fun e w' => e = .returned (.int .i64 n) ∧ w' = w := by
  go_enter Tryd.func27, Tryd.ntmps27
  go_wp2
  go_ret
  exact ⟨rfl, rfl⟩
end Go.Proofs.YtjnmaplkikbjjaaDoor
