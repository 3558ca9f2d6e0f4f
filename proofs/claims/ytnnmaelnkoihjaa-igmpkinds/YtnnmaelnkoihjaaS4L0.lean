/- The statements' own example; Put, whatever it tells. -/
import Derived.Test.YtnnmaelnkoihjaaS4W5
namespace Go.Proofs.Ytnnmaelnkoihjaa
open Go.RowKit

theorem lay_at0 : (layZ (codeZ 1) 8 0).getD 0 0 = 17 := rfl
theorem lay_at1 : (layZ (codeZ 1) 8 0).getD 1 0 = 8 := rfl
set_option maxHeartbeats 800000 in
theorem awake_any (w : World) : Calls Try.prog 7 #[] w fun e w' => e = .returned (.bool true) ∧ Below w.heap.size w w' := by
  have hput := put_good 1 8 0 w (by decide)
  go_enter Try.func7, Try.ntmps7
  go_wp2_with fail
  refine hput.mono ?_
  rintro e w1 ⟨g, cap, rfl, ho, hb⟩
  have c0 : w1.cell? ⟨g, 0, none⟩ = some (.int .u8 17) := (ho.cell 0 (by decide)).trans (congrArg (fun x => some (Value.int .u8 x)) lay_at0)
  have c1 : w1.cell? ⟨g, 1, none⟩ = some (.int .u8 8) := (ho.cell 1 (by decide)).trans (congrArg (fun x => some (Value.int .u8 x)) lay_at1)
  have HB : Hid (Below w.heap.size w w1) := hb
  clear hput ho hb
  go_wp2_with fail
  refine (num_any _ _).mono ?_
  rintro e w' ⟨rfl, rfl⟩
  go_wp2
  go_ret
  exact ⟨rfl, HB.out⟩

/-- Put, whatever it tells: the bytes are those of the list. -/
def putB (k t g : Int) : List Int := if putE k t g = 0 then layZ (codeZ k) t g else []
theorem putB_ok {k t g : Int} (h : putE k t g = 0) : putB k t g = layZ (codeZ k) t g := by unfold putB; rw [if_pos h]
theorem putB_bad {k t g : Int} (h : putE k t g ≠ 0) : putB k t g = [] := by unfold putB; rw [if_neg h]
theorem putB_bd (k t g : Int) : AreBytes (putB k t g) := by
  unfold putB; split
  · exact layZ_bd _ _ _
  · intro z hz; cases hz
theorem put_any (k t g : Int) (w : World) :
    Calls Try.prog 8 #[.agg #[.int .i64 k, .int .i64 t, .int .i64 g]] w fun e w' =>
      ∃ (a : Option Addr) (n cap : Nat), e = .returned (.tuple #[.slice a n cap, .int .i64 (putE k t g)]) ∧ n = (putB k t g).length ∧ n ≤ cap ∧ Bts w' a (putB k t g) ∧ Below w.heap.size w w' := by
  by_cases h : putE k t g = 0
  · refine (put_good k t g w h).mono ?_
    rintro e w' ⟨b, cap, rfl, ho, hb⟩
    exact ⟨_, _, _, by rw [h], by rw [putB_ok h]; rfl, by have := ho.cap; rw [layZ_length] at this; exact this, by rw [putB_ok h]; exact ho.bts, hb⟩
  · refine (put_bad k t g w h).mono ?_
    rintro e w' ⟨rfl, hb⟩
    exact ⟨_, _, _, rfl, by rw [putB_bad h]; rfl, by omega, by rw [putB_bad h]; exact .inl rfl, hb⟩

/-- What is told is read back. -/
theorem num4_be (g : Int) : num4 (g / 16777216 % 256) (g / 65536 % 256) (g / 256 % 256) (g % 256) = g % 4294967296 := by unfold num4; omega
theorem lay_grp (f t g : Int) (h0 : 0 ≤ g) (h1 : g ≤ 4294967295) : grpZ (layZ f t g) = g := by
  show num4 (g / 16777216 % 256) (g / 65536 % 256) (g / 256 % 256) (g % 256) = g
  rw [num4_be]; omega
theorem lay_want (f t g : Int) (hf : 0 ≤ f ∧ f ≤ 255) (ht : 0 ≤ t ∧ t ≤ 255) (hg : 0 ≤ g ∧ g ≤ 4294967295) : wantZ4 (layZ f t g) = layZ f t g := by
  unfold wantZ4
  rw [lay_grp f t g hg.1 hg.2]
  congr 1
  · show f % 256 = f; omega
  · show t % 256 = t; omega
theorem lay_got {k t g : Int} (h : putE k t g = 0) : getE4 (layZ (codeZ k) t g) = 0 ∧ gotK (layZ (codeZ k) t g) = k ∧ gotT (layZ (codeZ k) t g) = t ∧ gotG (layZ (codeZ k) t g) = g := by
  obtain ⟨hk0, hk1, ht0, ht1, hg0, hg1⟩ := putE_zero h
  have hc := codeZ_bd k
  have d0 : (layZ (codeZ k) t g).getD 0 0 = codeZ k := by show codeZ k % 256 = codeZ k; omega
  have d1 : (layZ (codeZ k) t g).getD 1 0 = t := by show t % 256 = t; omega
  have d2 := lay_grp (codeZ k) t g hg0 hg1
  have e : getE4 (layZ (codeZ k) t g) = 0 := by
    rw [getE4_put rfl (lay_want _ _ _ hc ⟨ht0, ht1⟩ ⟨hg0, hg1⟩).symm, d0, d1, d2, kindZ_code k hk0 hk1]; exact h
  refine ⟨e, ?_, ?_, ?_⟩
  · unfold gotK; rw [if_pos e, d0, kindZ_code k hk0 hk1]
  · unfold gotT; rw [if_pos e, d1]
  · unfold gotG; rw [if_pos e, d2]
theorem putB_inj {k t g k' t' g' : Int} (h : putE k t g = 0) (h' : putE k' t' g' = 0) (e : layZ (codeZ k) t g = layZ (codeZ k') t' g') : k = k' ∧ t = t' ∧ g = g' := by
  obtain ⟨_, a1, a2, a3⟩ := lay_got h
  obtain ⟨_, b1, b2, b3⟩ := lay_got h'
  rw [e] at a1 a2 a3
  exact ⟨a1.symm.trans b1, a2.symm.trans b2, a3.symm.trans b3⟩
/-- What is read is told so. -/
theorem got_put {zs : List Int} (h : getE4 zs = 0) : zs.length = 8 ∧ putE (gotK zs) (gotT zs) (gotG zs) = 0 ∧ layZ (codeZ (gotK zs)) (gotT zs) (gotG zs) = zs := by
  have hl : zs.length = 8 := by
    rcases Nat.lt_or_ge zs.length 8 with h1 | h1
    · rw [getE4_short h1] at h; cases h
    · rcases Nat.lt_or_ge 8 zs.length with h2 | h2
      · rw [getE4_long h2] at h; cases h
      · omega
  have hw : zs = wantZ4 zs := by
    rcases Classical.em (zs = wantZ4 zs) with h1 | h1
    · exact h1
    · rw [getE4_sum hl h1] at h; cases h
  have hp := getE4_put hl hw
  rw [h] at hp
  have e1 : gotK zs = kindZ (zs.getD 0 0) := by unfold gotK; rw [if_pos h]
  have e2 : gotT zs = zs.getD 1 0 := by unfold gotT; rw [if_pos h]
  have e3 : gotG zs = grpZ zs := by unfold gotG; rw [if_pos h]
  have hk := (putE_zero hp.symm).1
  refine ⟨hl, by rw [e1, e2, e3]; exact hp.symm, ?_⟩
  rw [e1, e2, e3, codeZ_kind _ (by omega)]
  exact hw.symm
end Go.Proofs.Ytnnmaelnkoihjaa
