/- As many bytes as a head says. -/
import Derived.Test.YtoanjhccbmifmaaDoorS5G5
namespace Go.Proofs.YtoanjhccbmifmaaDoor
open Go.RowKit
set_option linter.unusedVariables false

/-- The Len that stands in a head's bytes. -/
def lenAt (zs : List Int) : Int := num2At zs 18
theorem read_len (zs : List Int) : (readHZ zs).len = lenAt zs := rfl
theorem head_shape (h : HeadZ) (n : Int) (hn : h.len = n) : headA h = #[.int .i64 h.age, .int .i64 h.kind, .int .i64 h.id, .int .i64 h.adv, .int .i64 h.seq, .int .i64 h.sum, .int .i64 n] := by rw [← hn]
theorem fld6 (a b c d e f g : Value) (w : World) : Sem.run Tryd.prog (Instr.field 23 (.agg #[a, b, c, d, e, f, g]) 6) w = .ok g w := by
  simp [Instr.field, go_sem]; rfl
/-- Which fault there is in the length, if any: 1 or 2 is a sentinel's number. -/
def firstK (zs : List Int) : Nat := if zs.length < 20 then 1 else if lenAt zs < 20 then 2 else if (zs.length : Int) < lenAt zs then 1 else 0
def FirstEnd (w : World) (p : Nat → Addr) (a : Option Addr) (cap : Nat) (zs : List Int) (e : Ending) (w' : World) : Prop :=
  Below w.heap.size w w' ∧ match firstK zs with
  | 0 => e = .returned (.tuple #[.slice a (lenAt zs).toNat cap, .nilIface])
  | k + 1 => ∃ str, e = .returned (.tuple #[.slice none 0 0, faultV str (p (k + 1))])
set_option maxHeartbeats 1600000 in
set_option maxRecDepth 20000 in
theorem first_any (a : Option Addr) (n cap : Nat) (zs : List Int) (p : Nat → Addr) (w : World) (hn : n = zs.length) (hE : EnvAt w p) (hS : Slice w a cap zs) :
    Calls Tryd.prog 70 #[.slice a n cap] w (FirstEnd w p a cap zs) := by
  unfold FirstEnd
  by_cases h20 : zs.length < 20
  · have hk : firstK zs = 1 := by unfold firstK; rw [if_pos h20]
    rw [hk]
    have h20' : (n : Int) < 20 := by omega
    have v := hE.var 1 (by decide)
    clear hE hS hk hn
    go_enter Tryd.func70, Tryd.ntmps70
    go_wp2_with fail
    refine (wrap_any _ _ _ _).mono ?_
    rintro e w2 ⟨rfl, hq⟩
    subst w2
    go_wp2
    go_ret2
    exact ⟨Below.refl _ _, _, rfl⟩
  have h20' : ¬ (n : Int) < 20 := by omega
  have hroom := hS.room
  have hlen := hS.len
  obtain ⟨b, off, rfl, hcell⟩ := slice_some hS (by omega)
  have hrd := readHead_any b off zs.length cap zs w hcell hS.bd (by omega) (by omega) hroom
  rw [head_shape _ _ (read_len zs)] at hrd
  generalize readHZ zs = h at *
  have hfl := fun g W => fld6 (.int .i64 h.age) (.int .i64 h.kind) (.int .i64 h.id) (.int .i64 h.adv) (.int .i64 h.seq) (.int .i64 h.sum) g W
  have HF : Hid (firstK zs = if lenAt zs < 20 then 2 else if (zs.length : Int) < lenAt zs then 1 else 0) := by show _ = _; unfold firstK; rw [if_neg h20]
  generalize lenAt zs = N at *
  have hnn : zs.length = n := hn.symm
  rw [hnn] at hrd
  have HN : Hid (zs.length = n) := hnn
  have hn20 : 20 ≤ n := by omega
  have hncap : n ≤ cap := by omega
  have HE : Hid (EnvAt w p) := hE
  clear hn hnn hE hS hcell h20 hroom
  by_cases hN : N < 20
  · have hk : firstK zs = 2 := by rw [HF.out, if_pos hN]
    rw [hk]
    clear hk HF
    go_enter Tryd.func70, Tryd.ntmps70
    go_wp2_with fail
    refine hrd.mono ?_
    rintro e w1 ⟨rfl, hb⟩
    have HB : Hid (Below w.heap.size w w1) := hb
    have v := (HE.out.below hb (Nat.le_refl _)).var 2 (by decide)
    clear hb hrd
    go_wp2_with fail
    refine (wrap_any _ _ _ _).mono ?_
    rintro e w2 ⟨rfl, hq⟩
    subst w2
    go_wp2
    go_ret2
    exact ⟨HB.out, _, rfl⟩
  by_cases hL : (n : Int) < N
  · have hk : firstK zs = 1 := by rw [HF.out, if_neg hN, if_pos (by rw [HN.out]; exact hL)]
    rw [hk]
    clear hk HF
    go_enter Tryd.func70, Tryd.ntmps70
    go_wp2_with fail
    refine hrd.mono ?_
    rintro e w1 ⟨rfl, hb⟩
    have HB : Hid (Below w.heap.size w w1) := hb
    have v := (HE.out.below hb (Nat.le_refl _)).var 1 (by decide)
    clear hb hrd
    go_wp2_with fail
    refine (wrap_any _ _ _ _).mono ?_
    rintro e w2 ⟨rfl, hq⟩
    subst w2
    go_wp2
    go_ret2
    exact ⟨HB.out, _, rfl⟩
  · have hk : firstK zs = 0 := by rw [HF.out, if_neg hN, if_neg (by rw [HN.out]; exact hL)]
    rw [hk]
    clear hk HF
    obtain ⟨m, rfl⟩ : ∃ m : Nat, N = m := ⟨N.toNat, by omega⟩
    have hcp : (m : Int) ≤ cap := by omega
    go_enter Tryd.func70, Tryd.ntmps70
    go_wp2_with fail
    refine hrd.mono ?_
    rintro e w1 ⟨rfl, hb⟩
    have HB : Hid (Below w.heap.size w w1) := hb
    clear hb hrd
    go_wp2
    go_ret2
    exact ⟨HB.out, rfl⟩
end Go.Proofs.YtoanjhccbmifmaaDoor
