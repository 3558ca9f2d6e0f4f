/- Contracts of the document's digits and Text, and of the statements' own helpers. -/
import Derived.Test.YtjnmaplkikbjjaaDoorW2
import Derived.Deep.RegionWith
namespace Go.Proofs.YtjnmaplkikbjjaaDoor
open Go.RowKit

theorem conv_any (W : World) (b : Nat) (x : Int) (hc : W.cell? ⟨b, 0, none⟩ = some (.int .u8 x)) (h0 : 0 ≤ x) (h1 : x < 256) :
    Sem.run Tryd.prog (convert 53 9 (.slice (some ⟨b, 0, none⟩) 1 1)) W = .ok (.string ⟨#[UInt8.ofNat x.toNat]⟩) W := by
  have hx : ((UInt8.ofNat x.toNat).toNat : Int) = x := by
    rw [UInt8.toNat_ofNat', show x.toNat % 2 ^ 8 = x.toNat by omega]; omega
  exact run_convert_bytes_back (P := Tryd.prog) W 53 9 5 ⟨b, 0, none⟩ 1 [UInt8.ofNat x.toNat] Tryd.underlying53 Tryd.underlying5 Tryd.underlying9 (fun j hj => by
    have : j = 0 := by simpa using hj
    subst this
    show W.cell? ⟨b, 0, none⟩ = some (.int .u8 ((UInt8.ofNat x.toNat).toNat : Int))
    rw [hx]; exact hc)
theorem ret_str {a b : ByteArray} (h : a = b) : Ending.returned (.string a) = .returned (.string b) := by rw [h]
theorem conv_cell (W : World) (x : Int) : (W.alloc (.cells #[.int .u8 x] 5)).cell? ⟨W.heap.size, 0, none⟩ = some (.int .u8 x) := by simp
theorem conv_one (W : World) (x : Int) (h0 : 0 ≤ x) (h1 : x < 256) :
    Sem.run Tryd.prog (convert 53 9 (.slice (some ⟨W.heap.size, 0, none⟩) 1 1)) (W.alloc (.cells #[.int .u8 x] 5)) = .ok (.string ⟨#[UInt8.ofNat x.toNat]⟩) (W.alloc (.cells #[.int .u8 x] 5)) :=
  conv_any _ _ x (by simp) h0 h1
theorem conv_drew (W : World) (x : Int) (h0 : 0 ≤ x) (h1 : x < 256) :
    Sem.run Tryd.prog (convert 53 9 (.slice (some ⟨W.heap.size, 0, none⟩) 1 1)) (W.alloc (.cells #[.int .u8 x] 5)).drew = .ok (.string ⟨#[UInt8.ofNat x.toNat]⟩) (W.alloc (.cells #[.int .u8 x] 5)).drew :=
  conv_any _ _ x (by simp) h0 h1

theorem conv_later (W : World) (o : Obj) (x : Int) (h0 : 0 ≤ x) (h1 : x < 256) :
    Sem.run Tryd.prog (convert 53 9 (.slice (some ⟨W.heap.size, 0, none⟩) 1 1)) ((W.alloc (.cells #[.int .u8 x] 5)).alloc o).drew = .ok (.string ⟨#[UInt8.ofNat x.toNat]⟩) ((W.alloc (.cells #[.int .u8 x] 5)).alloc o).drew :=
  conv_any _ _ x (by simp) h0 h1
theorem conv_later2 (W : World) (o o' : Obj) (x : Int) (h0 : 0 ≤ x) (h1 : x < 256) :
    Sem.run Tryd.prog (convert 53 9 (.slice (some ⟨W.heap.size, 0, none⟩) 1 1)) (((W.alloc (.cells #[.int .u8 x] 5)).alloc o).alloc o').drew.drew = .ok (.string ⟨#[UInt8.ofNat x.toNat]⟩) (((W.alloc (.cells #[.int .u8 x] 5)).alloc o).alloc o').drew.drew :=
  conv_any _ _ x (by
    have hb := ((Below.refl (W.heap.size + 1) (W.alloc (.cells #[.int .u8 x] 5))).alloc (by simp) o).alloc (by simp) o'
    have hc := hb.cell (p := ⟨W.heap.size, 0, none⟩) (by simp)
    show (((W.alloc (.cells #[.int .u8 x] 5)).alloc o).alloc o').cell? ⟨W.heap.size, 0, none⟩ = _
    rw [hc]; simp) h0 h1
theorem conv_second (W : World) (o : Obj) (x : Int) (h0 : 0 ≤ x) (h1 : x < 256) :
    Sem.run Tryd.prog (convert 53 9 (.slice (some ⟨W.heap.size + 1, 0, none⟩) 1 1)) ((W.alloc o).alloc (.cells #[.int .u8 x] 5)).drew = .ok (.string ⟨#[UInt8.ofNat x.toNat]⟩) ((W.alloc o).alloc (.cells #[.int .u8 x] 5)).drew :=
  conv_any _ _ x (by simp) h0 h1
theorem conv_third (W : World) (o o' : Obj) (x : Int) (h0 : 0 ≤ x) (h1 : x < 256) :
    Sem.run Tryd.prog (convert 53 9 (.slice (some ⟨W.heap.size + 1 + 1, 0, none⟩) 1 1)) (((W.alloc o).alloc o').alloc (.cells #[.int .u8 x] 5)).drew.drew = .ok (.string ⟨#[UInt8.ofNat x.toNat]⟩) (((W.alloc o).alloc o').alloc (.cells #[.int .u8 x] 5)).drew.drew :=
  conv_any _ _ x (by
    have := conv_cell ((W.alloc o).alloc o') x
    simpa using this) h0 h1
theorem digits_join (n : Int) (h : 10 ≤ n) : (⟨(Lib.decDigits (n / 10).toNat).toArray⟩ ++ ⟨#[UInt8.ofNat (48 + n % 10).toNat]⟩ : ByteArray) = ⟨(Lib.decDigits n.toNat).toArray⟩ := by
  have e : Lib.decDigits n.toNat = Lib.decDigits (n.toNat / 10) ++ [UInt8.ofNat (48 + n.toNat % 10)] := by
    rw [Lib.decDigits, dif_neg (by omega)]
  rw [e, show (n / 10).toNat = n.toNat / 10 by omega, show (48 + n % 10).toNat = 48 + n.toNat % 10 by omega]
  apply ByteArray.ext
  simp
theorem digits_below (w : World) (o o' o'' : Obj) : Below w.heap.size w (((w.alloc o).alloc o').alloc o'').drew.drew :=
  ((((Below.refl _ _).alloc (Nat.le_refl _) _).alloc (by simp) _).alloc (by simp; omega) _).drew.drew

set_option maxRecDepth 100000 in
set_option maxHeartbeats 800000 in
theorem digits_one (n : Int) (w : World) (h0 : 0 ≤ n) (h1 : n < 10) :
    Calls Tryd.prog 32 #[.int .i64 n] w fun e w' => e = .returned (.string ⟨(Lib.decDigits n.toNat).toArray⟩) ∧ ∃ o, w' = w.alloc o := by
  have c1 := conv_one w (48 + n) (by omega) (by omega)
  have e1 : Hid ((⟨#[UInt8.ofNat (48 + n).toNat]⟩ : ByteArray) = ⟨(Lib.decDigits n.toNat).toArray⟩) := by
    show _ = _
    rw [Lib.decDigits_one (by omega), show (48 + n).toNat = 48 + n.toNat by omega]
  go_enter Tryd.func32, Tryd.ntmps32
  go_wp2
  go_ret
  exact ⟨ret_str e1.out, _, rfl⟩
set_option maxRecDepth 100000 in
set_option maxHeartbeats 800000 in
theorem digits_two (n : Int) (w : World) (h0 : 10 ≤ n) (h1 : n < 100) :
    Calls Tryd.prog 32 #[.int .i64 n] w fun e w' => e = .returned (.string ⟨(Lib.decDigits n.toNat).toArray⟩) ∧ ∃ o o', w' = ((w.alloc o).alloc o').drew := by
  have q1 : n.tdiv 10 = n / 10 := Int.tdiv_eq_ediv_of_nonneg (by omega)
  have q2 : IntKind.i64.wrap (n / 10) = n / 10 := by rw [IntKind.wrap_i64]; omega
  have q3 : n.tmod 10 = n % 10 := Int.tmod_eq_emod_of_nonneg (by omega)
  have q4 : IntKind.i64.wrap (48 + n % 10) = 48 + n % 10 := by rw [IntKind.wrap_i64]; omega
  have q5 : IntKind.u8.wrap (48 + n % 10) = 48 + n % 10 := by rw [IntKind.wrap_u8]; omega
  have z1 : (Lib.decDigits (n / 10).toNat).length ≤ 3 := by rw [Lib.decDigits_one (by omega)]; simp
  have c1 := fun W => conv_drew W (48 + n % 10) (by omega) (by omega)
  have c2 := fun W o => conv_second W o (48 + n % 10) (by omega) (by omega)
  have c3 := fun W o => conv_later W o (48 + n % 10) (by omega) (by omega)
  have e1 : Hid ((⟨(Lib.decDigits (n / 10).toNat).toArray⟩ ++ ⟨#[UInt8.ofNat (48 + n % 10).toNat]⟩ : ByteArray) = ⟨(Lib.decDigits n.toNat).toArray⟩) := digits_join n h0
  go_enter Tryd.func32, Tryd.ntmps32
  go_wp2_with fail
  go_region_with (go_at_call 32; refine (digits_one _ _ (by omega) (by omega)).mono ?_; rintro e w' ⟨rfl, o, rfl⟩)
  all_goals go_wp2
  all_goals go_ret
  all_goals exact ⟨ret_str e1.out, _, _, rfl⟩
set_option maxRecDepth 100000 in
set_option maxHeartbeats 800000 in
theorem digits_three (n : Int) (w : World) (h0 : 100 ≤ n) (h1 : n < 1000) :
    Calls Tryd.prog 32 #[.int .i64 n] w fun e w' => e = .returned (.string ⟨(Lib.decDigits n.toNat).toArray⟩) ∧ Below w.heap.size w w' := by
  have q1 : n.tdiv 10 = n / 10 := Int.tdiv_eq_ediv_of_nonneg (by omega)
  have q2 : IntKind.i64.wrap (n / 10) = n / 10 := by rw [IntKind.wrap_i64]; omega
  have q3 : n.tmod 10 = n % 10 := Int.tmod_eq_emod_of_nonneg (by omega)
  have q4 : IntKind.i64.wrap (48 + n % 10) = 48 + n % 10 := by rw [IntKind.wrap_i64]; omega
  have q5 : IntKind.u8.wrap (48 + n % 10) = 48 + n % 10 := by rw [IntKind.wrap_u8]; omega
  have z1 : (Lib.decDigits (n / 10).toNat).length ≤ 3 := by rw [Lib.decDigits_two (by omega) (by omega)]; simp
  have c1 := fun W => conv_drew W (48 + n % 10) (by omega) (by omega)
  have c2 := fun W o o' => conv_third W o o' (48 + n % 10) (by omega) (by omega)
  have c3 := fun W o o' => conv_later2 W o o' (48 + n % 10) (by omega) (by omega)
  have e1 : Hid ((⟨(Lib.decDigits (n / 10).toNat).toArray⟩ ++ ⟨#[UInt8.ofNat (48 + n % 10).toNat]⟩ : ByteArray) = ⟨(Lib.decDigits n.toNat).toArray⟩) := digits_join n (by omega)
  go_enter Tryd.func32, Tryd.ntmps32
  go_wp2_with fail
  go_region_with (go_at_call 32; refine (digits_two _ _ (by omega) (by omega)).mono ?_; rintro e w' ⟨rfl, o, o', rfl⟩)
  all_goals go_wp2
  all_goals go_ret
  all_goals exact ⟨ret_str e1.out, digits_below _ _ _ _⟩
theorem digits_any (n : Int) (w : World) (h0 : 0 ≤ n) (h1 : n < 1000) :
    Calls Tryd.prog 32 #[.int .i64 n] w fun e w' => e = .returned (.string ⟨(Lib.decDigits n.toNat).toArray⟩) ∧ Below w.heap.size w w' := by
  by_cases a : n < 10
  · refine (digits_one n w h0 a).mono ?_
    rintro e w' ⟨rfl, o, rfl⟩
    exact ⟨rfl, (Below.refl _ _).alloc (Nat.le_refl _) _⟩
  · by_cases b : n < 100
    · refine (digits_two n w (by omega) b).mono ?_
      rintro e w' ⟨rfl, o, o', rfl⟩
      exact ⟨rfl, (((Below.refl _ _).alloc (Nat.le_refl _) _).alloc (by simp) _).drew⟩
    · exact digits_three n w (by omega) h1
end Go.Proofs.YtjnmaplkikbjjaaDoor
