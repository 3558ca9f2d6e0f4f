/- From a row of numbers that came in to the bytes that a walk speaks of. -/
import Derived.Test.YtgljblnegiadlaaBT
import Derived.ProofKit
import Derived.OpenShut
import Derived.ShutString
import Derived.ChangeOld
import Derived.Below
namespace Go.Proofs.Ytgljblnegiadlaa
open Go.ChangeShapes Go.WideShapes Go.ChangeAt Go.RowKit

theorem own : ownKnob Try.prog.godebug = none := by kernel_rfl
theorem laidOut : laidOutB Try.prog = true := by kernel_rfl

theorem bytes_nil (w : World) : ∃ zs : List Int, zs.length = 0 ∧ Bts w none zs ∧ AreBytes zs ∧ zs.length ≤ 0 ∧ zs.length ≤ maxLen ∧ ((none : Option Addr) = none → 0 = 0) :=
  ⟨[], rfl, .inl rfl, (fun z hz => by cases hz), by simp, by simp, fun _ => rfl⟩
theorem bytes_row {w : World} {x : Addr} {len cap : Nat} {zs : List Int} (hl : len ≤ cap) (hm : cap ≤ maxLen) (hz : zs.length = cap)
    (hcell : ∀ i, i < zs.length → w.cell? (x.add i) = some (.int .u8 (zs.getD i 0))) (hw : ∀ n ∈ zs, (Lit.int .u8 n).wf = true) :
    ∃ zs : List Int, zs.length = len ∧ Bts w (some x) zs ∧ AreBytes zs ∧ zs.length ≤ cap ∧ zs.length ≤ maxLen ∧ (some x = none → cap = 0) := by
  refine ⟨zs.take len, by simp; omega, ?_, fun z hzz => ?_, by simp; omega, by simp; omega, fun h => by cases h⟩
  · rcases Nat.eq_zero_or_pos len with h | h
    · subst h; exact .inl (by simp)
    · obtain ⟨b, off, spot⟩ := x
      have h0 := hcell 0 (by omega)
      have hspot : spot = none := by simpa [Addr.add] using World.cell?_spot h0
      subst hspot
      refine .inr ⟨b, off, rfl, fun i hi => ?_⟩
      simp at hi
      have hc := hcell i (by omega)
      have e : (⟨b, off, none⟩ : Addr).add i = ⟨b, off + i, none⟩ := by
        unfold Addr.add; split
        · subst_vars; rfl
        · rfl
      rw [e] at hc
      rw [hc]
      simp [List.getD_eq_getElem?_getD, show i < len by omega]
  · have h := hw z (List.mem_of_mem_take hzz)
    simpa [Lit.wf, IntKind.min, IntKind.max, IntKind.signed, IntKind.bits] using h
end Go.Proofs.Ytgljblnegiadlaa
