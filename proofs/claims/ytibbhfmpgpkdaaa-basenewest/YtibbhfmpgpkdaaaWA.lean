/- Numbers appended as bytes to a row of the call's own. -/
import Derived.Test.YtibbhfmpgpkdaaaBE
import Derived.Test.YtibbhfmpgpkdaaaGR
namespace Go.Proofs.Ytibbhfmpgpkdaaa
open Go.RowKit

theorem snoc_be (zs ys : List Int) (k' k : Nat) (n : Int) (h : zs ++ beN (k' + 1) n = ys ++ beN k n) : (zs ++ [n / 2 ^ (8 * k') % 256]) ++ beN k' n = ys ++ beN k n := by
  rw [← h, beN]; simp
theorem wrap_u8_mod (x : Int) : IntKind.u8.wrap x = x % 256 := IntKind.wrap_u8 x

set_option maxHeartbeats 800000 in
theorem wappend_any (k : Nat) (hk : k ≤ 8) (n : Int) (base g cap : Nat) (ys : List Int) (w : World) (hown : Owns w base g cap ys) (hl : ys.length ≤ 70368744177664) (hbase : base ≤ w.heap.size) :
    Calls Try.prog 95 #[.slice (some ⟨g, 0, none⟩) ys.length cap, .int .i64 n, .int .i64 k] w fun e w' => ∃ g' cp, e = .returned (.slice (some ⟨g', 0, none⟩) (ys.length + k) cp) ∧ Owns w' base g' cp (ys ++ beN k n) ∧ Below base w w' ∧ Grew w w' g g' := by
  go_enter Try.func95, Try.ntmps95
  go_wp2
  go_loopw [0, 7] (fun v t wr => ∃ (k' : Nat) (zs : List Int) (m g' cp : Nat), v = .slice (some ⟨g', 0, none⟩) m cp ∧ t = .int .i64 (8 * ((k' : Int) - 1)) ∧ k' ≤ k ∧ m + k' = ys.length + k ∧ Hid (m = zs.length) ∧ Hid (zs ++ beN k' n = ys ++ beN k n) ∧ Hid (Owns wr base g' cp zs) ∧ Hid (Below base w wr) ∧ base ≤ wr.heap.size ∧ Hid (Grew w wr g g')) (fun _ t _ => (intOf t + 8).toNat)
  case atStart => exact ⟨k, ys, ys.length, g, cap, rfl, by go_num, by omega, rfl, rfl, rfl, hown, Below.refl _ _, hbase, Grew.refl _ _⟩
  case round =>
    obtain ⟨k', zs, m, g', cp, rfl, rfl, hk', hmk, hm, hz, ho, hb, hbs, hgr⟩ := hrel
    rcases k' with _ | k'
    · obtain rfl : m = ys.length + k := by omega
      have hzz : zs = ys ++ beN k n := by have := hz.out; simpa [beN] using this
      have HO : Hid (Owns wr base g' cp (ys ++ beN k n)) := hzz ▸ ho.out
      clear hzz hz ho hm hown
      go_wp2
      go_ret
      exact ⟨_, _, rfl, HO.out, hb.out, hgr.out⟩
    · have hzl : zs.length ≤ 70368744177664 + 8 := by have := hm.out; omega
      have e1 : (8 * (((k' + 1 : Nat) : Int) - 1)).toNat = 8 * k' := by omega
      clear hown
      go_wp2_with (at_builtin; go_must (refine wp_append_at _ rfl _ _ rfl base g' cp zs _ rfl hm.out (ho.out.alloc _) _ _ _ rfl [n / 2 ^ (8 * k') % 256] rfl ?_ (by simp; omega) (by simp; omega) ?_))
      · exact (bts_one _ _)
      intro g2 cp2 w2 ho2 hg2 hp2
      have HG2 : Hid (Grew w w2 g g2) := hgr.out.trans ((Grew.new g' _).trans (Grew.of hg2 (by simpa using hp2)))
      have hb2 : Below base w w2 := (hb.out.alloc hbs _).grown hg2 (by simp; omega) (fun j hj => by cases hj; exact ho.out.lt.1)
      have hs2 : base ≤ w2.heap.size := by have := ho2.lt; omega
      have HO2 : Hid (Owns w2 base g2 cp2 (zs ++ [n / 2 ^ (8 * k') % 256])) := ho2
      have HB2 : Hid (Below base w w2) := hb2
      clear ho hb ho2 hb2 hg2 hp2 hgr
      go_wp2
      go_roundw
      case rel => exact ⟨k', _, m + 1, g2, cp2, rfl, by go_num, by omega, by omega, by show _ = _; rw [hm.out]; simp, snoc_be _ _ _ _ _ hz.out, HO2.out, HB2.out, hs2, HG2.out⟩
      case measure => simp [intOf]; omega
theorem wappend2 (n : Int) (base g cap m : Nat) (ys : List Int) (w : World) (hown : Owns w base g cap ys) (hm : m = ys.length) (hl : ys.length ≤ 70368744177664) (hbase : base ≤ w.heap.size) :
    Calls Try.prog 95 #[.slice (some ⟨g, 0, none⟩) m cap, .int .i64 n, .int .i64 2] w fun e w' => ∃ g' cp, e = .returned (.slice (some ⟨g', 0, none⟩) (m + 2) cp) ∧ Owns w' base g' cp (ys ++ be2 n) ∧ Below base w w' ∧ Grew w w' g g' := by
  subst hm; rw [← beN_2]; exact wappend_any 2 (by omega) n base g cap ys w hown hl hbase
theorem wappend4 (n : Int) (base g cap m : Nat) (ys : List Int) (w : World) (hown : Owns w base g cap ys) (hm : m = ys.length) (hl : ys.length ≤ 70368744177664) (hbase : base ≤ w.heap.size) :
    Calls Try.prog 95 #[.slice (some ⟨g, 0, none⟩) m cap, .int .i64 n, .int .i64 4] w fun e w' => ∃ g' cp, e = .returned (.slice (some ⟨g', 0, none⟩) (m + 4) cp) ∧ Owns w' base g' cp (ys ++ be4 n) ∧ Below base w w' ∧ Grew w w' g g' := by
  subst hm; rw [← beN_4]; exact wappend_any 4 (by omega) n base g cap ys w hown hl hbase
end Go.Proofs.Ytibbhfmpgpkdaaa
