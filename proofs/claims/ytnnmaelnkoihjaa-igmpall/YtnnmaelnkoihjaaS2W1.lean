/- Contracts of the check sums of words: the program's and the document's. -/
import Derived.Test.YtnnmaelnkoihjaaRows
import Derived.Test.YtnnmaelnkoihjaaS2P
import Derived.Test.YtnnmaelnkoihjaaB1
import Derived.WalkKit
import Derived.WalkSpells
namespace Go.Proofs.Ytnnmaelnkoihjaa
open Go.RowKit

theorem ret_int {k : IntKind} {a b : Int} (h : a = b) : Ending.returned (.int k a) = .returned (.int k b) := by rw [h]
theorem ret_bool {a b : Bool} (h : a = b) : Ending.returned (.bool a) = .returned (.bool b) := by rw [h]
theorem ret_two {a b c d : Int} (h : a = b) (h' : c = d) : Ending.returned (.tuple #[.int .i64 a, .int .i64 c]) = .returned (.tuple #[.int .i64 b, .int .i64 d]) := by rw [h, h']

/-- The bytes zs lie at that address (at whatever one, where there are none). -/
def Bts (w : World) (a : Option Addr) (zs : List Int) : Prop :=
  zs = [] ∨ ∃ b off, a = some ⟨b, off, none⟩ ∧ ∀ i, i < zs.length → w.cell? ⟨b, off + i, none⟩ = some (.int .u8 (zs.getD i 0))
def AreBytes (zs : List Int) : Prop := ∀ z ∈ zs, 0 ≤ z ∧ z ≤ 255
theorem Bts.below {w w' : World} {a : Option Addr} {zs : List Int} (h : Bts w a zs) (hb : Below w.heap.size w w') : Bts w' a zs := by
  rcases h with h | ⟨b, off, rfl, hc⟩
  · exact .inl h
  · refine .inr ⟨b, off, rfl, fun i hi => ?_⟩
    have := hc i hi
    rw [hb.cell (by
      show b < _
      rcases Nat.lt_or_ge b w.heap.size with h | h
      · exact h
      · simp [World.cell?, Array.getElem?_eq_none h] at this)]
    exact this
theorem Bts.tail4 {w : World} {b off c : Nat} {x0 x1 x2 x3 : Int} {rs : List Int} (h : Bts w (some ⟨b, off, none⟩) (x0 :: x1 :: x2 :: x3 :: rs)) (hc : rs.length ≤ c - 4) :
    Bts w (if c = 4 then some ⟨b, off, none⟩ else some ⟨b, off + 4, none⟩) rs := by
  rcases h with h | ⟨b', off', e, hcell⟩
  · cases h
  · by_cases h4 : c = 4
    · exact .inl (List.eq_nil_of_length_eq_zero (by omega))
    · simp only [Option.some.injEq, Addr.mk.injEq] at e
      obtain ⟨rfl, rfl, _⟩ := e
      refine .inr ⟨b, off + 4, by rw [if_neg h4], fun i hi => ?_⟩
      have := hcell (i + 4) (by simp; omega)
      rw [show off + 4 + i = off + (i + 4) by omega, this]; simp
def lenOf : Value → Nat | .slice _ n _ => n | _ => 0
theorem words_step {s x0 x1 x2 x3 W : Int} {rs : List Int} (h : s + wordsZ (x0 :: x1 :: x2 :: x3 :: rs) = W) : s + (x0 * 256 + x1 + x2 * 256 + x3) + wordsZ rs = W := by
  simp only [wordsZ] at h; omega
theorem list0 {rs : List Int} (h : rs.length = 0) : rs = [] := List.eq_nil_of_length_eq_zero h
theorem list1 {rs : List Int} (h : rs.length = 1) : ∃ a, rs = [a] := by
  match rs, h with
  | [a], _ => exact ⟨a, rfl⟩
theorem list2 {rs : List Int} (h : rs.length = 2) : ∃ a b, rs = [a, b] := by
  match rs, h with
  | [a, b], _ => exact ⟨a, b, rfl⟩
theorem list3 {rs : List Int} (h : rs.length = 3) : ∃ a b c, rs = [a, b, c] := by
  match rs, h with
  | [a, b, c], _ => exact ⟨a, b, c, rfl⟩
theorem list4 {rs : List Int} (h : 4 ≤ rs.length) : ∃ a b c d r, rs = a :: b :: c :: d :: r := by
  match rs, h with
  | a :: b :: c :: d :: r, _ => exact ⟨a, b, c, d, r, rfl⟩

set_option maxHeartbeats 400000 in
theorem inet_any (a : Option Addr) (cap : Nat) (zs : List Int) (w : World) (hB : Bts w a zs) (hz : AreBytes zs) (hc : zs.length ≤ cap) (hl : zs.length ≤ 140737488355328) :
    Calls Try.prog 27 #[.slice a zs.length cap] w fun e w' => e = .returned (.int .i64 (inetZ zs)) ∧ Below w.heap.size w w' := by
  go_enter Try.func27, Try.ntmps27
  go_wp2
  go_loopw [0, 3] (fun v t wr => ∃ (rs : List Int) (n c : Nat) (a' : Option Addr) (s : Int), v = .slice a' n c ∧ t = .int .i64 s ∧ Hid (rs.length = n) ∧ n ≤ c ∧ Hid (AreBytes rs) ∧ Hid (Bts wr a' rs) ∧ Hid (s + wordsZ rs = wordsZ zs) ∧ 0 ≤ s ∧ s + 65535 * n ≤ 9223231299366420480 ∧ Hid (Below w.heap.size w wr)) (fun v _ _ => lenOf v)
  case atStart => exact ⟨zs, zs.length, cap, a, 0, rfl, rfl, rfl, hc, hz, hB, by show _ = _; omega, by omega, by omega, Below.refl _ _⟩
  case round =>
    obtain ⟨rs, n, c, a', s, rfl, rfl, hn, hnc, hrs, hbt, hs, hs0, hs1, hbel⟩ := hrel
    by_cases h4 : 4 ≤ n
    · obtain ⟨x0, x1, x2, x3, rs, rfl⟩ := list4 (rs := rs) (by have := hn.out; omega)
      obtain ⟨b, off, rfl, hcl⟩ := hbt.out.resolve_left (by simp)
      have c0 : wr.cell? ⟨b, off, none⟩ = some (.int .u8 x0) := by simpa using hcl 0 (by simp)
      have c1 : wr.cell? ⟨b, off + 1, none⟩ = some (.int .u8 x1) := by simpa using hcl 1 (by simp)
      have c2 : wr.cell? ⟨b, off + 2, none⟩ = some (.int .u8 x2) := by simpa using hcl 2 (by simp)
      have c3 : wr.cell? ⟨b, off + 3, none⟩ = some (.int .u8 x3) := by simpa using hcl 3 (by simp)
      have b0 := hrs.out x0 (by simp)
      have b1 := hrs.out x1 (by simp)
      have b2 := hrs.out x2 (by simp)
      have b3 := hrs.out x3 (by simp)
      clear hcl
      go_wp2
      go_region
      go_wp2
      have hn' := hn.out
      simp only [List.length_cons] at hn'
      go_roundw
      case rel =>
        exact ⟨rs, n - 4, c - 4, _, _, rfl, rfl, by show _ = _; omega, by omega, fun z hz => hrs.out z (by simp [hz]), (hbt.out.tail4 (by omega)).below (Below.refl _ _).drew, words_step hs.out, by omega, by omega, hbel.out.drew⟩
      case measure => simp [lenOf]; omega
    · have hfin : ∀ t : Int, s + wordsZ rs = t → t = wordsZ zs := fun t h => h ▸ hs.out
      have HF : Hid (∀ t : Int, s + wordsZ rs = t → t = wordsZ zs) := hfin
      have hW := wordsZ_bd zs hz
      clear hfin hs hB hz
      have h03 : n = 0 ∨ n = 1 ∨ n = 2 ∨ n = 3 := by omega
      rcases h03 with rfl | rfl | rfl | rfl
      · obtain rfl := list0 hn.out
        clear hbt hrs
        go_wp2
        go_loop [3] (fun t => ∃ s' : Int, t = .int .i64 s' ∧ 0 ≤ s' ∧ s' ≤ 9223372036854775807 ∧ Hid (foldZ s' = foldZ (wordsZ zs))) (fun t => (intOf t).toNat)
        case atStart => exact ⟨_, rfl, by omega, by omega, congrArg foldZ (HF.out _ (by simp only [wordsZ]; omega))⟩
        case round =>
          obtain ⟨s', rfl, p0, p1, HG⟩ := hrel
          have ea := and_65535 s'
          by_cases hgt : 65535 < s'
          · go_wp2
            go_round
            case rel => exact ⟨_, rfl, by omega, by omega, (foldZ_step s' hgt).trans HG.out⟩
            case measure => simp [intOf]; omega
          · go_wp2
            go_ret
            exact ⟨ret_int (by rw [inetZ, ← HG.out, foldZ_small _ p0 (by omega)]), hbel.out⟩
      · obtain ⟨x0, rfl⟩ := list1 hn.out
        obtain ⟨b, off, rfl, hcl⟩ := hbt.out.resolve_left (by simp)
        have c0 : wr.cell? ⟨b, off, none⟩ = some (.int .u8 x0) := by simpa using hcl 0 (by simp)
        have b0 := hrs.out x0 (by simp)
        clear hbt hrs hcl
        go_wp2
        go_loop [3] (fun t => ∃ s' : Int, t = .int .i64 s' ∧ 0 ≤ s' ∧ s' ≤ 9223372036854775807 ∧ Hid (foldZ s' = foldZ (wordsZ zs))) (fun t => (intOf t).toNat)
        case atStart => exact ⟨_, rfl, by omega, by omega, congrArg foldZ (HF.out _ (by simp only [wordsZ]; omega))⟩
        case round =>
          obtain ⟨s', rfl, p0, p1, HG⟩ := hrel
          have ea := and_65535 s'
          by_cases hgt : 65535 < s'
          · go_wp2
            go_round
            case rel => exact ⟨_, rfl, by omega, by omega, (foldZ_step s' hgt).trans HG.out⟩
            case measure => simp [intOf]; omega
          · go_wp2
            go_ret
            exact ⟨ret_int (by rw [inetZ, ← HG.out, foldZ_small _ p0 (by omega)]), hbel.out⟩
      · obtain ⟨x0, x1, rfl⟩ := list2 hn.out
        obtain ⟨b, off, rfl, hcl⟩ := hbt.out.resolve_left (by simp)
        have c0 : wr.cell? ⟨b, off, none⟩ = some (.int .u8 x0) := by simpa using hcl 0 (by simp)
        have c1 : wr.cell? ⟨b, off + 1, none⟩ = some (.int .u8 x1) := by simpa using hcl 1 (by simp)
        have b0 := hrs.out x0 (by simp)
        have b1 := hrs.out x1 (by simp)
        clear hbt hrs hcl
        go_wp2
        go_loop [3] (fun t => ∃ s' : Int, t = .int .i64 s' ∧ 0 ≤ s' ∧ s' ≤ 9223372036854775807 ∧ Hid (foldZ s' = foldZ (wordsZ zs))) (fun t => (intOf t).toNat)
        case atStart => exact ⟨_, rfl, by omega, by omega, congrArg foldZ (HF.out _ (by simp only [wordsZ]; omega))⟩
        case round =>
          obtain ⟨s', rfl, p0, p1, HG⟩ := hrel
          have ea := and_65535 s'
          by_cases hgt : 65535 < s'
          · go_wp2
            go_round
            case rel => exact ⟨_, rfl, by omega, by omega, (foldZ_step s' hgt).trans HG.out⟩
            case measure => simp [intOf]; omega
          · go_wp2
            go_ret
            exact ⟨ret_int (by rw [inetZ, ← HG.out, foldZ_small _ p0 (by omega)]), hbel.out⟩
      · obtain ⟨x0, x1, x2, rfl⟩ := list3 hn.out
        obtain ⟨b, off, rfl, hcl⟩ := hbt.out.resolve_left (by simp)
        have c0 : wr.cell? ⟨b, off, none⟩ = some (.int .u8 x0) := by simpa using hcl 0 (by simp)
        have c1 : wr.cell? ⟨b, off + 1, none⟩ = some (.int .u8 x1) := by simpa using hcl 1 (by simp)
        have c2 : wr.cell? ⟨b, off + 2, none⟩ = some (.int .u8 x2) := by simpa using hcl 2 (by simp)
        have b0 := hrs.out x0 (by simp)
        have b1 := hrs.out x1 (by simp)
        have b2 := hrs.out x2 (by simp)
        clear hbt hrs hcl
        go_wp2
        go_loop [3] (fun t => ∃ s' : Int, t = .int .i64 s' ∧ 0 ≤ s' ∧ s' ≤ 9223372036854775807 ∧ Hid (foldZ s' = foldZ (wordsZ zs))) (fun t => (intOf t).toNat)
        case atStart => exact ⟨_, rfl, by omega, by omega, congrArg foldZ (HF.out _ (by simp only [wordsZ]; omega))⟩
        case round =>
          obtain ⟨s', rfl, p0, p1, HG⟩ := hrel
          have ea := and_65535 s'
          by_cases hgt : 65535 < s'
          · go_wp2
            go_round
            case rel => exact ⟨_, rfl, by omega, by omega, (foldZ_step s' hgt).trans HG.out⟩
            case measure => simp [intOf]; omega
          · go_wp2
            go_ret
            exact ⟨ret_int (by rw [inetZ, ← HG.out, foldZ_small _ p0 (by omega)]), hbel.out⟩

/-- What the document's way has at each even place. -/
theorem words_take2 (zs : List Int) (k : Nat) (h0 : k % 2 = 0) (h : k + 1 < zs.length) : wordsZ (zs.take (k + 2)) = wordsZ (zs.take k) + (zs.getD k 0 * 256 + zs.getD (k + 1) 0) := by
  have e : zs.take (k + 2) = zs.take k ++ [zs.getD k 0, zs.getD (k + 1) 0] := by
    rw [show k + 2 = (k + 1) + 1 from rfl, List.take_succ_eq_append_getElem (show k + 1 < zs.length by omega), List.take_succ_eq_append_getElem (show k < zs.length by omega), List.append_assoc]
    rw [List.getD_eq_getElem?_getD, List.getD_eq_getElem?_getD, List.getElem?_eq_getElem h, List.getElem?_eq_getElem (show k < zs.length by omega)]
    rfl
  rw [e, wordsZ_even _ _ (by simp; omega)]; simp only [wordsZ]; omega
theorem words_take1 (zs : List Int) (k : Nat) (h0 : k % 2 = 0) (h : k + 1 = zs.length) : wordsZ (zs.take (k + 2)) = wordsZ (zs.take k) + zs.getD k 0 * 256 := by
  have e : zs.take (k + 2) = zs.take k ++ [zs.getD k 0] := by
    rw [List.take_of_length_le (by omega)]
    conv => lhs; rw [← List.take_append_drop k zs]
    congr 1
    apply List.ext_getElem
    · simp; omega
    · intro i h1 h2
      simp at h2; subst h2
      simp [show k < zs.length by omega]
  rw [e, wordsZ_even _ _ (by simp; omega)]; simp only [wordsZ]; omega
theorem fold_in {s W x : Int} (hs : s = foldZ W) (h0 : 0 ≤ W) (hx : 0 ≤ x) (hx1 : x ≤ 65535) : (s + x) % 65536 + (s + x) / 65536 = foldZ (W + x) := by
  have := foldZ_bd W
  rw [foldZ_once _ (by omega) (by omega), hs, foldZ_add _ _ h0 hx]
theorem areBytes_getD {zs : List Int} (h : AreBytes zs) (k : Nat) : 0 ≤ zs.getD k 0 ∧ zs.getD k 0 ≤ 255 := by
  rcases Nat.lt_or_ge k zs.length with hk | hk
  · rw [List.getD_eq_getElem?_getD, List.getElem?_eq_getElem hk]; exact h _ (List.getElem_mem hk)
  · rw [List.getD_eq_getElem?_getD, List.getElem?_eq_none hk]; simp
theorem areBytes_take {zs : List Int} (h : AreBytes zs) (k : Nat) : AreBytes (zs.take k) := fun z hz => h z (List.mem_of_mem_take hz)

set_option maxHeartbeats 400000 in
theorem rinet_any (a : Option Addr) (cap : Nat) (zs : List Int) (w : World) (hB : Bts w a zs) (hz : AreBytes zs) (hl : zs.length ≤ 140737488355328) :
    Calls Try.prog 19 #[.slice a zs.length cap] w fun e w' => e = .returned (.int .i64 (inetZ zs)) ∧ w' = w := by
  go_enter Try.func19, Try.ntmps19
  go_wp2
  go_loop [3, 4] (fun t i => ∃ (k : Nat) (s : Int), k % 2 = 0 ∧ k ≤ zs.length + 1 ∧ i = .int .i64 k ∧ t = .int .i64 s ∧ 0 ≤ s ∧ s ≤ 65535 ∧ Hid (s = foldZ (wordsZ (zs.take k)))) (fun _ i => zs.length + 2 - (intOf i).toNat)
  case atStart => exact ⟨0, 0, rfl, by omega, rfl, rfl, by omega, by omega, by show _ = _; simp [wordsZ, foldZ]⟩
  case round =>
    obtain ⟨k, s, hk2, hk, rfl, rfl, hs0, hs1, hs⟩ := hrel
    have hw0 := (wordsZ_bd (zs.take k) (areBytes_take hz k)).1
    have HW : Hid (0 ≤ wordsZ (zs.take k)) := hw0
    clear hw0
    by_cases hlt : k < zs.length
    · obtain ⟨b, off, rfl, hcl⟩ := hB.resolve_left (by rintro rfl; simp at hlt)
      have c0 := hcl k hlt
      have d0 := areBytes_getD hz k
      have d1 := areBytes_getD hz (k + 1)
      by_cases hlt1 : k + 1 < zs.length
      · have c1 := hcl (k + 1) hlt1
        have TT : Hid (_ = _) := words_take2 zs k hk2 hlt1
        generalize zs.getD k 0 = x0 at *
        generalize zs.getD (k + 1) 0 = x1 at *
        have eo := or_byte x0 x1 d0.1 (by omega) d1.1 d1.2
        have ea := and_65535 (s + (x0 * 256 + x1))
        clear hcl
        go_wp2
        go_round
        case rel => exact ⟨k + 2, _, by omega, by omega, by go_num, rfl, by omega, by omega, by rw [TT.out]; exact fold_in hs.out HW.out (by omega) (by omega)⟩
        case measure => simp [intOf]; omega
      · have TT : Hid (_ = _) := words_take1 zs k hk2 (by omega)
        generalize zs.getD k 0 = x0 at *
        have ea := and_65535 (s + x0 * 256)
        clear hcl d1
        go_wp2
        go_round
        case rel => exact ⟨k + 2, _, by omega, by omega, by go_num, rfl, by omega, by omega, by rw [TT.out]; exact fold_in hs.out HW.out (by omega) (by omega)⟩
        case measure => simp [intOf]; omega
    · go_wp2
      go_ret
      exact ⟨ret_int (by rw [inetZ, hs.out, List.take_of_length_le (by omega)]), rfl⟩
end Go.Proofs.Ytnnmaelnkoihjaa
