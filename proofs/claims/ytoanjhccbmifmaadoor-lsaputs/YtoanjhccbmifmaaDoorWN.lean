/- Bytes read as numbers and as strings. -/
import Derived.Test.YtoanjhccbmifmaaDoorBE
import Derived.Test.YtoanjhccbmifmaaDoorBT
import Derived.Laws.BytesArg
import Derived.Laws.BytesString
import Derived.Laws.IdiomStrings
namespace Go.Proofs.YtoanjhccbmifmaaDoor
open Go.RowKit

def strOf (zs : List Int) : ByteArray := ⟨(zs.map fun z => UInt8.ofNat z.toNat).toArray⟩
theorem u8_of (z : Int) (h : 0 ≤ z ∧ z ≤ 255) : ((UInt8.ofNat z.toNat).toNat : Int) = z := by
  rw [UInt8.toNat_ofNat', show z.toNat % 2 ^ 8 = z.toNat by omega]; omega
theorem strOf_inj : ∀ (xs ys : List Int), AreBytes xs → AreBytes ys → strOf xs = strOf ys → xs = ys := by
  intro xs ys hx hy h
  have h' : (xs.map fun z => UInt8.ofNat z.toNat) = ys.map fun z => UInt8.ofNat z.toNat := by
    have := congrArg ByteArray.data h
    simpa [strOf] using this
  have e : ∀ zs : List Int, AreBytes zs → (zs.map fun z => UInt8.ofNat z.toNat).map (fun u => (u.toNat : Int)) = zs := by
    intro zs hz
    rw [List.map_map]
    conv => rhs; rw [← List.map_id zs]
    exact List.map_congr_left fun z hzz => u8_of z (hz z hzz)
  rw [← e xs hx, ← e ys hy, h']
theorem strOf_eq (xs ys : List Int) (hx : AreBytes xs) (hy : AreBytes ys) : ((strOf xs).toList == (strOf ys).toList) = decide (xs = ys) := by
  by_cases h : xs = ys
  · subst h; simp
  · have h1 : strOf xs ≠ strOf ys := fun e => h (strOf_inj xs ys hx hy e)
    simp only [h, decide_false]
    rw [ByteArray.toList_eq, ByteArray.toList_eq, beq_eq_false_iff_ne]
    intro e
    exact h1 (ByteArray.ext (Array.ext' e))
theorem conv_bts (w : World) (a : Option Addr) (n cap : Nat) (zs : List Int) (hn : n = zs.length) (hB : Bts w a zs) (hz : AreBytes zs) :
    Sem.run Tryd.prog (convert 31 9 (.slice a n cap)) w = .ok (.string (strOf zs)) w := by
  subst hn
  rcases hB with rfl | ⟨b, off, rfl, hc⟩
  · rw [List.length_nil, run_convert_bytes_string (P := Tryd.prog) w 31 9 5 _ 0 cap Tryd.underlying31 Tryd.underlying5 Tryd.underlying9]
    cases a <;> simp [Conv.bytesToString, loadCells]
    all_goals rfl
  · have := run_convert_bytes_back (P := Tryd.prog) w 31 9 5 ⟨b, off, none⟩ cap (zs.map fun z => UInt8.ofNat z.toNat) Tryd.underlying31 Tryd.underlying5 Tryd.underlying9 (fun j hj => by
      have hj' : j < zs.length := by simpa using hj
      have e : (⟨b, off, none⟩ : Addr).add j = ⟨b, off + j, none⟩ := by
        unfold Addr.add; split
        · subst_vars; rfl
        · rfl
      rw [e, hc j hj', List.getElem_map, u8_of _ (hz _ (List.getElem_mem hj'))]
      simp [hj'])
    simpa [strOf] using this

theorem equal_any (a b : Option Addr) (n m c d : Nat) (xs ys : List Int) (w : World) (hn : n = xs.length) (hm : m = ys.length) (hx : Bts w a xs) (hy : Bts w b ys) (bx : AreBytes xs) (bY : AreBytes ys) :
    Calls Tryd.prog 72 #[.slice a n c, .slice b m d] w fun e w' => e = .returned (.bool (decide (xs = ys))) ∧ w' = w := by
  have c1 := conv_bts w a n c xs hn hx bx
  have c2 := conv_bts w b m d ys hm hy bY
  have HS : Hid (((strOf xs).toList == (strOf ys).toList) = decide (xs = ys)) := strOf_eq xs ys bx bY
  clear hn hm hx hy
  go_enter Tryd.func72, Tryd.ntmps72
  go_wp2
  go_ret
  exact ⟨ret_bool HS.out, rfl⟩

theorem or_byte' (a b : Int) (ha : 0 ≤ a) (h1 : a ≤ 4503599627370495) (hb : 0 ≤ b) (h2 : b ≤ 255) : bits .or .i64 (a * 256) b = a * 256 + b := or_byte a b ha h1 hb h2
theorem list_four {zs : List Int} (h : zs.length = 4) : ∃ a b c d, zs = [a, b, c, d] := by
  match zs, h with
  | [a, b, c, d], _ => exact ⟨a, b, c, d, rfl⟩

set_option maxHeartbeats 800000 in
theorem number_four (b off cap : Nat) (x0 x1 x2 x3 : Int) (w : World) (h0 : w.cell? ⟨b, off, none⟩ = some (.int .u8 x0)) (h1 : w.cell? ⟨b, off + 1, none⟩ = some (.int .u8 x1)) (h2 : w.cell? ⟨b, off + 2, none⟩ = some (.int .u8 x2)) (h3 : w.cell? ⟨b, off + 3, none⟩ = some (.int .u8 x3))
    (b0 : 0 ≤ x0 ∧ x0 ≤ 255) (b1 : 0 ≤ x1 ∧ x1 ≤ 255) (b2 : 0 ≤ x2 ∧ x2 ≤ 255) (b3 : 0 ≤ x3 ∧ x3 ≤ 255) :
    Calls Tryd.prog 74 #[.slice (some ⟨b, off, none⟩) 4 cap] w fun e w' => e = .returned (.int .i64 (num4 x0 x1 x2 x3)) ∧ w' = w := by
  have e0 : bits .or .i64 0 x0 = x0 := by have := or_byte 0 x0 (by omega) (by omega) b0.1 b0.2; simpa using this
  have e1 := or_byte x0 x1 (by omega) (by omega) b1.1 b1.2
  have e2 := or_byte (x0 * 256 + x1) x2 (by omega) (by omega) b2.1 b2.2
  have e3 := or_byte ((x0 * 256 + x1) * 256 + x2) x3 (by omega) (by omega) b3.1 b3.2
  go_enter Tryd.func74, Tryd.ntmps74
  go_wp2
  refine wp_loop_rounds 5 ?_
  rw [rounds_succ]
  go_wp2
  rw [rounds_succ]
  go_wp2
  rw [rounds_succ]
  go_wp2
  rw [rounds_succ]
  go_wp2
  rw [rounds_succ]
  go_wp2
  go_ret
  exact ⟨rfl, rfl⟩

theorem or_16 (a b : Int) (ha : 0 ≤ a) (h1 : a ≤ 65535) (hb : 0 ≤ b) (h2 : b ≤ 255) : bits .or .i64 (a * 65536) (b * 256) = a * 65536 + b * 256 :=
  bits_join .i64 62 (by decide) wraps62 16 (a * 65536) (b * 256) (by omega) (by omega) (by omega) (by omega) (by omega) (by omega)
theorem or_24 (a b : Int) (ha : 0 ≤ a) (h1 : a ≤ 255) (hb : 0 ≤ b) (h2 : b ≤ 255) : bits .or .i64 (a * 16777216) (b * 65536) = a * 16777216 + b * 65536 :=
  bits_join .i64 62 (by decide) wraps62 24 (a * 16777216) (b * 65536) (by omega) (by omega) (by omega) (by omega) (by omega) (by omega)

set_option maxHeartbeats 800000 in
theorem rtwo_any (b off n cap k : Nat) (x0 x1 : Int) (w : World) (hk : k + 2 ≤ n) (hn : n ≤ 140737488355328) (h0 : w.cell? ⟨b, off + k, none⟩ = some (.int .u8 x0)) (h1 : w.cell? ⟨b, off + (k + 1), none⟩ = some (.int .u8 x1))
    (b0 : 0 ≤ x0 ∧ x0 ≤ 255) (b1 : 0 ≤ x1 ∧ x1 ≤ 255) :
    Calls Tryd.prog 48 #[.slice (some ⟨b, off, none⟩) n cap, .int .i64 k] w fun e w' => e = .returned (.int .i64 (x0 * 256 + x1)) ∧ w' = w.drew := by
  have e1 := or_byte x0 x1 (by omega) (by omega) b1.1 b1.2
  go_enter Tryd.func48, Tryd.ntmps48
  go_wp2
  go_region
  go_wp2
  go_ret
  exact ⟨rfl, rfl⟩
set_option maxHeartbeats 1600000 in
theorem rfour_any (b off n cap k : Nat) (x0 x1 x2 x3 : Int) (w : World) (hk : k + 4 ≤ n) (hn : n ≤ 140737488355328) (h0 : w.cell? ⟨b, off + k, none⟩ = some (.int .u8 x0)) (h1 : w.cell? ⟨b, off + (k + 1), none⟩ = some (.int .u8 x1)) (h2 : w.cell? ⟨b, off + (k + 2), none⟩ = some (.int .u8 x2)) (h3 : w.cell? ⟨b, off + (k + 3), none⟩ = some (.int .u8 x3))
    (b0 : 0 ≤ x0 ∧ x0 ≤ 255) (b1 : 0 ≤ x1 ∧ x1 ≤ 255) (b2 : 0 ≤ x2 ∧ x2 ≤ 255) (b3 : 0 ≤ x3 ∧ x3 ≤ 255) :
    Calls Tryd.prog 52 #[.slice (some ⟨b, off, none⟩) n cap, .int .i64 k] w fun e w' => e = .returned (.int .i64 (num4 x0 x1 x2 x3)) ∧ w' = w.drew := by
  have e1 := or_24 x0 x1 b0.1 b0.2 b1.1 b1.2
  have e2 : bits .or .i64 (x0 * 16777216 + x1 * 65536) (x2 * 256) = x0 * 16777216 + x1 * 65536 + x2 * 256 := by
    have := or_16 (x0 * 256 + x1) x2 (by omega) (by omega) b2.1 b2.2
    rw [show (x0 * 256 + x1) * 65536 = x0 * 16777216 + x1 * 65536 by omega] at this; exact this
  have e3 : bits .or .i64 (x0 * 16777216 + x1 * 65536 + x2 * 256) x3 = x0 * 16777216 + x1 * 65536 + x2 * 256 + x3 := by
    have := or_byte (x0 * 65536 + x1 * 256 + x2) x3 (by omega) (by omega) b3.1 b3.2
    rw [show (x0 * 65536 + x1 * 256 + x2) * 256 = x0 * 16777216 + x1 * 65536 + x2 * 256 by omega] at this; exact this
  have e4 : Hid (x0 * 16777216 + x1 * 65536 + x2 * 256 + x3 = num4 x0 x1 x2 x3) := by show _ = _; unfold num4; omega
  go_enter Tryd.func52, Tryd.ntmps52
  go_wp2
  go_region
  go_wp2
  go_ret
  exact ⟨ret_int e4.out, rfl⟩
/-- At a place of a row of bytes. -/
def num2At (zs : List Int) (k : Nat) : Int := zs.getD k 0 * 256 + zs.getD (k + 1) 0
def num4At (zs : List Int) (k : Nat) : Int := num4 (zs.getD k 0) (zs.getD (k + 1) 0) (zs.getD (k + 2) 0) (zs.getD (k + 3) 0)
theorem rtwo_at (b off n cap k : Nat) (K : Int) (hK : K = k) (zs : List Int) (W : World) (hc : ∀ i, i < n → W.cell? ⟨b, off + i, none⟩ = some (.int .u8 (zs.getD i 0))) (hz : AreBytes zs) (hk : k + 2 ≤ n) (hn : n ≤ 140737488355328) :
    Calls Tryd.prog 48 #[.slice (some ⟨b, off, none⟩) n cap, .int .i64 K] W fun e w' => e = .returned (.int .i64 (num2At zs k)) ∧ w' = W.drew := by
  subst hK
  exact rtwo_any b off n cap k _ _ W hk hn (hc k (by omega)) (hc (k + 1) (by omega)) (areBytes_getD hz _) (areBytes_getD hz _)
theorem rfour_at (b off n cap k : Nat) (K : Int) (hK : K = k) (zs : List Int) (W : World) (hc : ∀ i, i < n → W.cell? ⟨b, off + i, none⟩ = some (.int .u8 (zs.getD i 0))) (hz : AreBytes zs) (hk : k + 4 ≤ n) (hn : n ≤ 140737488355328) :
    Calls Tryd.prog 52 #[.slice (some ⟨b, off, none⟩) n cap, .int .i64 K] W fun e w' => e = .returned (.int .i64 (num4At zs k)) ∧ w' = W.drew := by
  subst hK
  exact rfour_any b off n cap k _ _ _ _ W hk hn (hc k (by omega)) (hc (k + 1) (by omega)) (hc (k + 2) (by omega)) (hc (k + 3) (by omega)) (areBytes_getD hz _) (areBytes_getD hz _) (areBytes_getD hz _) (areBytes_getD hz _)
end Go.Proofs.YtoanjhccbmifmaaDoor
