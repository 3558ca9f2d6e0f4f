/- The document's Get: of too few bytes, of another form. -/
import Derived.Test.YtknpgpmckabmbaaDoorS3W10
import Derived.Test.YtknpgpmckabmbaaDoorS3Q
import Derived.Test.YtknpgpmckabmbaaDoorOA2
namespace Go.Proofs.YtknpgpmckabmbaaDoor
open Go.RowKit

theorem below_new (w : World) (o : Obj) : Below w.heap.size w (w.alloc o) := (Below.refl _ _).alloc (Nat.le_refl _) _
set_option maxHeartbeats 1600000 in
theorem rget_short (a : Option Addr) (n cap : Nat) (w : World) (hn : n < 20) :
    Calls Tryd.prog 12 #[.slice a n cap] w fun e w' => e = .returned (.tuple #[.agg #[.int .i64 0, .int .i64 0, .int .i64 0, .int .i64 0, .slice none 0 0], .int .i64 2]) ∧ Below w.heap.size w w' := by
  go_enter Tryd.func12, Tryd.ntmps12
  go_wp2
  go_returns
  exact ⟨rfl, below_new _ _⟩
/-- The document's words for the form. -/
def formP (zs : List Int) : Prop := zs.getD 0 0 = 69 ∧ zs.getD 1 0 = 0 ∧ num4At zs 4 = 0 ∧ num2At zs 2 = zs.length ∧ zs.length ≤ 1044

set_option maxHeartbeats 1600000 in
theorem rget_form (b off n cap : Nat) (zs : List Int) (w : World) (hm : n = zs.length) (hB : Bts w (some ⟨b, off, none⟩) zs) (hz : AreBytes zs) (hn : 20 ≤ n) (hn3 : n ≤ 3000) (hf : ¬ formP zs) :
    Calls Tryd.prog 12 #[.slice (some ⟨b, off, none⟩) n cap] w fun e w' => e = .returned (.tuple #[.agg #[.int .i64 0, .int .i64 0, .int .i64 0, .int .i64 0, .slice none 0 0], .int .i64 3]) ∧ Below w.heap.size w w' := by
  have HC : Hid (∀ W, Below w.heap.size w W → ∀ i, i < n → W.cell? ⟨b, off + i, none⟩ = some (.int .u8 (zs.getD i 0))) := fun W hW i hi => (hB.below hW).cells i (by omega)
  have hW := below_new w (.cells #[.int .i64 0, .int .i64 0, .int .i64 0, .int .i64 0, .slice none 0 0] 24)
  have HB : Hid (Below w.heap.size w (w.alloc (.cells #[.int .i64 0, .int .i64 0, .int .i64 0, .int .i64 0, .slice none 0 0] 24))) := hW
  have c0 : (w.alloc (.cells #[.int .i64 0, .int .i64 0, .int .i64 0, .int .i64 0, .slice none 0 0] 24)).cell? ⟨b, off, none⟩ = some (.int .u8 (zs.getD 0 0)) := HC.out _ hW 0 (by omega)
  have c1 := HC.out _ hW 1 (by omega)
  have k4 := rfour_at b off n cap 4 4 rfl zs _ (HC.out _ hW) hz (by omega) (by omega)
  have k2 := rtwo_at b off n cap 2 2 rfl zs _ (HC.out _ hW.drew) hz (by omega) (by omega)
  have i1 : (1 : Int) < (n : Int) := by omega
  unfold formP at hf
  have HF : Hid (¬ (zs.getD 0 0 = 69 ∧ zs.getD 1 0 = 0 ∧ num4At zs 4 = 0 ∧ num2At zs 2 = n ∧ n ≤ 1044)) := by rw [hm]; exact hf
  clear hf hW HC hB hm hz
  generalize zs.getD 0 0 = z0 at *
  generalize zs.getD 1 0 = z1 at *
  generalize num4At zs 4 = f4 at *
  generalize num2At zs 2 = f2 at *
  by_cases h0 : z0 = 69
  rotate_left
  · have t0 : (z0 != 69) = true := by simp [h0]
    clear k4 k2 HF
    go_enter Tryd.func12, Tryd.ntmps12
    go_wp2
    go_returns
    exact ⟨rfl, HB.out⟩
  subst h0
  by_cases h1 : z1 = 0
  rotate_left
  · have t1 : (z1 != 0) = true := by simp [h1]
    clear k4 k2 HF
    go_enter Tryd.func12, Tryd.ntmps12
    go_wp2
    go_returns
    exact ⟨rfl, HB.out⟩
  subst h1
  by_cases h4 : f4 = 0
  rotate_left
  · have t4 : (f4 != 0) = true := by simp [h4]
    clear k2 HF
    go_enter Tryd.func12, Tryd.ntmps12
    go_wp2_with fail
    refine k4.mono ?_
    rintro e w' ⟨rfl, rfl⟩
    go_wp2
    go_returns
    exact ⟨rfl, HB.out.drew⟩
  subst h4
  by_cases h2 : f2 = n
  rotate_left
  · have t2 : (f2 != (n : Int)) = true := by simp [h2]
    clear HF
    go_enter Tryd.func12, Tryd.ntmps12
    go_wp2_with fail
    refine k4.mono ?_
    rintro e w' ⟨rfl, rfl⟩
    go_wp2_with fail
    refine k2.mono ?_
    rintro e w' ⟨rfl, rfl⟩
    go_wp2
    go_returns
    exact ⟨rfl, HB.out.drew.drew⟩
  subst h2
  by_cases h5 : n ≤ 1044
  · exact absurd ⟨rfl, rfl, rfl, rfl, h5⟩ HF.out
  · clear HF
    go_enter Tryd.func12, Tryd.ntmps12
    go_wp2_with fail
    refine k4.mono ?_
    rintro e w' ⟨rfl, rfl⟩
    go_wp2_with fail
    refine k2.mono ?_
    rintro e w' ⟨rfl, rfl⟩
    go_wp2
    go_returns
    exact ⟨rfl, HB.out.drew.drew⟩
end Go.Proofs.YtknpgpmckabmbaaDoor
