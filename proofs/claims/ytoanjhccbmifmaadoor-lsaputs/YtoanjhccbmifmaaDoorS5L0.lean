/- The document's example. -/
import Derived.Test.YtoanjhccbmifmaaDoorS5R5
import Derived.Test.YtoanjhccbmifmaaDoorS5S
namespace Go.Proofs.YtoanjhccbmifmaaDoor
open Go.RowKit

theorem sealL_right {l : LsaZ} (h : rightLsaB l = true) : sealL l = withHead l (sealH l) := by unfold sealL; rw [if_pos h]
theorem mid_head {l : LsaZ} (h : Mid l) (z : HeadZ) : Mid (withHead l z) := ⟨h.hl, h.hr, h.hv⟩
theorem held_head {w : World} {s : Seats} {l : LsaZ} (h : Held w s l) (z : HeadZ) : Held w s (withHead l z) := ⟨h.hl, h.hr, h.hv⟩
def exL : LsaZ := ⟨⟨0, 6, 3774873601, 1, 0, 0, 0⟩, 0, [], 0, [], [⟨1, 1⟩]⟩
theorem exL_right : rightLsaB exL = true := by decide
theorem exL_mid : Mid exL := ⟨by decide, by decide, by decide⟩
theorem exL_len (h : HeadZ) (hk : h.kind = 6) : (layZ (withHead exL h)).length = 28 := by
  rw [lay_head exL h hk, List.length_append, headZ_length, bodyZ_length]; rfl
/-- What Put tells of one that is sealed. -/
theorem put_sealed (s : Seats) (l : LsaZ) (w : World) (hE : Env w) (hH : Held w s l) (hf : Mid l) (hs : sealedB l = true) :
    Calls Tryd.prog 11 #[.agg (lsaA s l)] w fun e w' => ∃ g cp, e = .returned (.tuple #[.slice (some ⟨g, 0, none⟩) (layZ l).length cp, .int .i64 0]) ∧ Owns w' w.heap.size g cp (layZ l) ∧ Below w.heap.size w w' := by
  refine (put_any s l w hE hH hf).mono fun e w' h => ?_
  unfold PutEnd at h
  rw [hs] at h
  obtain ⟨hb, g, cp, h1, h2⟩ := h
  exact ⟨g, cp, h1, h2, hb⟩
theorem exL_held (w : World) : Held (w.alloc (.cells #[.int .i64 1, .int .i64 1] 58)) ⟨none, 0, none, 0, some ⟨w.heap.size, 0, none⟩, 1⟩ exL :=
  ⟨.inl rfl, .inl rfl, .inr ⟨w.heap.size, 0, rfl, fun i hi => by
    have hi' : i < 2 := hi
    have : i = 0 ∨ i = 1 := by omega
    rcases this with rfl | rfl
    · simp [exL, cellsOf, vertC]
    · simp [exL, cellsOf, vertC]⟩⟩
set_option maxHeartbeats 1600000 in
theorem awake_any (w : World) (hE : Env w) : Calls Tryd.prog 10 #[] w fun e w' => e = .returned (.bool true) ∧ Below w.heap.size w w' := by
  have hs := seal_any ⟨none, 0, none, 0, some ⟨w.heap.size, 0, none⟩, 1⟩ exL (w.alloc (.cells #[.int .i64 1, .int .i64 1] 58)) (exL_held w) exL_mid ⟨fun _ => rfl, fun _ => rfl, fun h => by cases h⟩
  rw [sealL_right exL_right] at hs
  have HE : Hid (Env w) := hE
  have HB : Hid (Below w.heap.size w (w.alloc (.cells #[.int .i64 1, .int .i64 1] 58))) := below_new' _ _
  have HK : Hid ((layZ (withHead exL (sealH exL))).length = 28) := exL_len _ (sealH_kind exL)
  have HZ : Hid (sealedB (withHead exL (sealH exL)) = true) := sealed_sealed exL_right
  have HM : Hid (Mid (withHead exL (sealH exL))) := mid_head exL_mid _
  clear hE
  generalize withHead exL (sealH exL) = L at *
  unfold SealEnd at hs
  have hs' : Calls Tryd.prog 13 #[.agg #[.int .i64 0, .int .i64 6, .int .i64 3774873601, .int .i64 1, .int .i64 0, .int .i64 0, .int .i64 0, .int .i64 0, .slice none 0 0, .int .i64 0, .slice none 0 0, .slice (some ⟨w.heap.size, 0, none⟩) 1 1]] (w.alloc (.cells #[.int .i64 1, .int .i64 1] 58)) _ := hs
  clear hs
  go_enter Tryd.func10, Tryd.ntmps10
  go_wp2_with fail
  refine hs'.mono ?_
  rintro e w1 ⟨s1, rfl, hh, _, hb⟩
  have HB1 : Hid (Below w.heap.size w w1) := below_more HB.out hb (by simp)
  have hp := put_sealed s1 L w1 (HE.out.below HB1.out (Nat.le_refl _)) hh HM.out HZ.out
  rw [HK.out] at hp
  clear hs' hh hb
  go_wp2_with fail
  refine hp.mono ?_
  rintro e w2 ⟨g, cp, rfl, _, hb⟩
  have HB2 : Hid (Below w.heap.size w w2) := below_more HB1.out hb HB1.out.size
  clear hp hb
  go_wp2_with (go_at_call 18; refine (num_any _ _).mono ?_; rintro e w' ⟨rfl, rfl⟩)
  go_ret
  exact ⟨rfl, HB2.out⟩
end Go.Proofs.YtoanjhccbmifmaaDoor
