/- As many bytes as a head says. -/
import Derived.Test.YtoanjhccbmifmaaDoorS5GB
namespace Go.Proofs.YtoanjhccbmifmaaDoor
open Go.RowKit
set_option linter.unusedVariables false

/-- The Len that stands in a head's bytes. -/
def lenAt (zs : List Int) : Int := num2At zs 18
theorem read_len (zs : List Int) : (readHZ zs).len = lenAt zs := rfl
theorem head_shape (h : HeadZ) (n : Int) (hn : h.len = n) : headA h = #[.int .i64 h.age, .int .i64 h.kind, .int .i64 h.id, .int .i64 h.adv, .int .i64 h.seq, .int .i64 h.sum, .int .i64 n] := by rw [← hn]
theorem fld6 (a b c d e f g : Value) (w : World) : Sem.run Tryd.prog (Instr.field 23 (.agg #[a, b, c, d, e, f, g]) 6) w = .ok g w := by
  simp [Instr.field, go_sem]; rfl
/-- Which fault there is in the length, if any: 1 or 2 is a sentinel's number. -/
def firstK (zs : List Int) : Nat := if zs.length < 20 then 1 else if lenAt zs < 20 then 2 else if (zs.length : Int) < lenAt zs then 1 else 0
def FirstEnd (w : World) (p : Nat → Addr) (a : Option Addr) (cap : Nat) (zs : List Int) (e : Ending) (w' : World) : Prop :=
  Below w.heap.size w w' ∧ match firstK zs with
  | 0 => e = .returned (.tuple #[.slice a (lenAt zs).toNat cap, .nilIface])
  | k + 1 => ∃ str, e = .returned (.tuple #[.slice none 0 0, faultV str (p (k + 1))])
set_option maxHeartbeats 1600000 in
set_option maxRecDepth 20000 in
theorem first_any (a : Option Addr) (n cap : Nat) (zs : List Int) (p : Nat → Addr) (w : World) (hn : n = zs.length) (hE : EnvAt w p) (hS : Slice w a cap zs) :
    Calls Tryd.prog 70 #[.slice a n cap] w (FirstEnd w p a cap zs) := by
  unfold FirstEnd
  by_cases h20 : zs.length < 20
  · have hk : firstK zs = 1 := by unfold firstK; rw [if_pos h20]
    rw [hk]
    have h20' : (n : Int) < 20 := by omega
    have v := hE.var 1 (by decide)
    clear hE hS hk hn
    go_enter Tryd.func70, Tryd.ntmps70
    go_wp2_with fail
    refine (wrap_any _ _ _ _).mono ?_
    rintro e w2 ⟨rfl, hq⟩
    subst w2
    go_wp2
    go_ret2
    exact ⟨Below.refl _ _, _, rfl⟩
  have h20' : ¬ (n : Int) < 20 := by omega
  have hroom := hS.room
  have hlen := hS.len
  obtain ⟨b, off, rfl, hcell⟩ := slice_some hS (by omega)
  have hrd := readHead_any b off zs.length cap zs w hcell hS.bd (by omega) (by omega) hroom
  rw [head_shape _ _ (read_len zs)] at hrd
  generalize readHZ zs = h at *
  have hfl := fun g W => fld6 (.int .i64 h.age) (.int .i64 h.kind) (.int .i64 h.id) (.int .i64 h.adv) (.int .i64 h.seq) (.int .i64 h.sum) g W
  have HF : Hid (firstK zs = if lenAt zs < 20 then 2 else if (zs.length : Int) < lenAt zs then 1 else 0) := by show _ = _; unfold firstK; rw [if_neg h20]
  generalize lenAt zs = N at *
  have hnn : zs.length = n := hn.symm
  rw [hnn] at hrd
  have HN : Hid (zs.length = n) := hnn
  have hn20 : 20 ≤ n := by omega
  have hncap : n ≤ cap := by omega
  have HE : Hid (EnvAt w p) := hE
  clear hn hnn hE hS hcell h20 hroom
  by_cases hN : N < 20
  · have hk : firstK zs = 2 := by rw [HF.out, if_pos hN]
    rw [hk]
    clear hk HF
    go_enter Tryd.func70, Tryd.ntmps70
    go_wp2_with fail
    refine hrd.mono ?_
    rintro e w1 ⟨rfl, hb⟩
    have HB : Hid (Below w.heap.size w w1) := hb
    have v := (HE.out.below hb (Nat.le_refl _)).var 2 (by decide)
    clear hb hrd
    go_wp2_with fail
    refine (wrap_any _ _ _ _).mono ?_
    rintro e w2 ⟨rfl, hq⟩
    subst w2
    go_wp2
    go_ret2
    exact ⟨HB.out, _, rfl⟩
  by_cases hL : (n : Int) < N
  · have hk : firstK zs = 1 := by rw [HF.out, if_neg hN, if_pos (by rw [HN.out]; exact hL)]
    rw [hk]
    clear hk HF
    go_enter Tryd.func70, Tryd.ntmps70
    go_wp2_with fail
    refine hrd.mono ?_
    rintro e w1 ⟨rfl, hb⟩
    have HB : Hid (Below w.heap.size w w1) := hb
    have v := (HE.out.below hb (Nat.le_refl _)).var 1 (by decide)
    clear hb hrd
    go_wp2_with fail
    refine (wrap_any _ _ _ _).mono ?_
    rintro e w2 ⟨rfl, hq⟩
    subst w2
    go_wp2
    go_ret2
    exact ⟨HB.out, _, rfl⟩
  · have hk : firstK zs = 0 := by rw [HF.out, if_neg hN, if_neg (by rw [HN.out]; exact hL)]
    rw [hk]
    clear hk HF
    obtain ⟨m, rfl⟩ : ∃ m : Nat, N = m := ⟨N.toNat, by omega⟩
    have hcp : (m : Int) ≤ cap := by omega
    go_enter Tryd.func70, Tryd.ntmps70
    go_wp2_with fail
    refine hrd.mono ?_
    rintro e w1 ⟨rfl, hb⟩
    have HB : Hid (Below w.heap.size w w1) := hb
    clear hb hrd
    go_wp2
    go_ret2
    exact ⟨HB.out, rfl⟩
end Go.Proofs.YtoanjhccbmifmaaDoor
/- The advertisement that bytes begin with. -/
namespace Go.Proofs.YtoanjhccbmifmaaDoor
open Go.RowKit
set_option linter.unusedVariables false

/-- As many of the bytes as the head says. -/
def getB (zs : List Int) : List Int := zs.take (lenAt zs).toNat
def ReadBad (w : World) (p : Nat → Addr) (k : Nat) (e : Ending) (w' : World) : Prop := ∃ str, e = .returned (.tuple #[.agg #[.int .i64 0, .int .i64 0, .int .i64 0, .int .i64 0, .int .i64 0, .int .i64 0, .int .i64 0, .int .i64 0, .slice none 0 0, .int .i64 0, .slice none 0 0, .slice none 0 0], faultV str (p k)]) ∧ Below w.heap.size w w'
theorem firstK_zero {zs : List Int} (h : firstK zs = 0) : 20 ≤ lenAt zs ∧ lenAt zs ≤ zs.length := by
  unfold firstK at h
  split at h
  · cases h
  · split at h
    · cases h
    · split at h
      · cases h
      · omega
theorem getB_length {zs : List Int} (h : firstK zs = 0) : (getB zs).length = (lenAt zs).toNat := by
  have := firstK_zero h
  unfold getB; rw [List.length_take]; omega
theorem slice_take {w : World} {a : Option Addr} {c : Nat} {zs : List Int} (h : Slice w a c zs) (m : Nat) : Slice w a c (zs.take m) := by
  refine ⟨?_, areBytes_take h.bd m, by have := h.room; rw [List.length_take]; omega, h.nil, by have := h.len; rw [List.length_take]; omega⟩
  rcases h.bts with e | ⟨b, off, e, hc⟩
  · exact .inl (by rw [e]; simp)
  · refine .inr ⟨b, off, e, fun i hi => ?_⟩
    rw [List.length_take] at hi
    rw [hc i (by omega)]
    simp [List.getD_eq_getElem?_getD, show i < m by omega]
/-- Two variables, still as they began; all else as it was. -/
def Two0 (w X : World) : Prop := Var X w.heap.size [.int .i64 0, .int .i64 0, .int .i64 0, .int .i64 0, .int .i64 0, .int .i64 0, .int .i64 0, .int .i64 0, .slice none 0 0, .int .i64 0, .slice none 0 0, .slice none 0 0] ∧ Var X (w.heap.size + 1) [.int .i64 0, .int .i64 0, .int .i64 0, .int .i64 0, .int .i64 0, .int .i64 0, .int .i64 0, .int .i64 0, .slice none 0 0, .int .i64 0, .slice none 0 0, .slice none 0 0] ∧ Below w.heap.size w X
theorem Two0.alloc {w X : World} (h : Two0 w X) (o : Obj) : Two0 w (X.alloc o) := ⟨h.1.alloc _, h.2.1.alloc _, h.2.2.alloc h.2.2.size _⟩
theorem Two0.drew {w X : World} (h : Two0 w X) : Two0 w X.drew := ⟨h.1.drew, h.2.1.drew, h.2.2.drew⟩
theorem Two0.put {w X : World} {b : Nat} (h : Two0 w X) (hb : w.heap.size + 1 < b) (v0 v1 v2 v3 v4 v5 v6 v7 v8 v9 v10 v11 : Value) : Two0 w ((((((((((((X.setCell ⟨b, 0, none⟩ (v0)).setCell ⟨b, 1, none⟩ (v1)).setCell ⟨b, 2, none⟩ (v2)).setCell ⟨b, 3, none⟩ (v3)).setCell ⟨b, 4, none⟩ (v4)).setCell ⟨b, 5, none⟩ (v5)).setCell ⟨b, 6, none⟩ (v6)).setCell ⟨b, 7, none⟩ (v7)).setCell ⟨b, 8, none⟩ (v8)).setCell ⟨b, 9, none⟩ (v9)).setCell ⟨b, 10, none⟩ (v10)).setCell ⟨b, 11, none⟩ (v11)) := ⟨h.1.put12' (by omega) v0 v1 v2 v3 v4 v5 v6 v7 v8 v9 v10 v11, h.2.1.put12' (by omega) v0 v1 v2 v3 v4 v5 v6 v7 v8 v9 v10 v11, below_put12 h.2.2 (by omega) v0 v1 v2 v3 v4 v5 v6 v7 v8 v9 v10 v11⟩
theorem Two0.below {w X Y : World} (h : Two0 w X) (hb : Below X.heap.size X Y) : Two0 w Y := ⟨h.1.below hb h.1.lt, h.2.1.below hb h.2.1.lt, below_more h.2.2 hb h.2.2.size⟩
theorem Two0.self {w X : World} (h : Two0 w X) : Two0 w ((((((((((((X.setCell ⟨w.heap.size, 0, none⟩ (.int .i64 0)).setCell ⟨w.heap.size, 1, none⟩ (.int .i64 0)).setCell ⟨w.heap.size, 2, none⟩ (.int .i64 0)).setCell ⟨w.heap.size, 3, none⟩ (.int .i64 0)).setCell ⟨w.heap.size, 4, none⟩ (.int .i64 0)).setCell ⟨w.heap.size, 5, none⟩ (.int .i64 0)).setCell ⟨w.heap.size, 6, none⟩ (.int .i64 0)).setCell ⟨w.heap.size, 7, none⟩ (.int .i64 0)).setCell ⟨w.heap.size, 8, none⟩ (.slice none 0 0)).setCell ⟨w.heap.size, 9, none⟩ (.int .i64 0)).setCell ⟨w.heap.size, 10, none⟩ (.slice none 0 0)).setCell ⟨w.heap.size, 11, none⟩ (.slice none 0 0)) := ⟨h.1.put12 (.int .i64 0) (.int .i64 0) (.int .i64 0) (.int .i64 0) (.int .i64 0) (.int .i64 0) (.int .i64 0) (.int .i64 0) (.slice none 0 0) (.int .i64 0) (.slice none 0 0) (.slice none 0 0), h.2.1.put12' (by omega) (.int .i64 0) (.int .i64 0) (.int .i64 0) (.int .i64 0) (.int .i64 0) (.int .i64 0) (.int .i64 0) (.int .i64 0) (.slice none 0 0) (.int .i64 0) (.slice none 0 0) (.slice none 0 0), below_put12 h.2.2 (Nat.le_refl _) (.int .i64 0) (.int .i64 0) (.int .i64 0) (.int .i64 0) (.int .i64 0) (.int .i64 0) (.int .i64 0) (.int .i64 0) (.slice none 0 0) (.int .i64 0) (.slice none 0 0) (.slice none 0 0)⟩
theorem Two0.room {w X : World} (h : Two0 w X) : w.heap.size + 1 < X.heap.size := h.2.1.lt
set_option maxHeartbeats 3200000 in
set_option maxRecDepth 20000 in
theorem read_first (a : Option Addr) (n cap : Nat) (zs : List Int) (p : Nat → Addr) (w : World) (hn : n = zs.length) (hE : EnvAt w p) (hS : Slice w a cap zs) (k : Nat) (hk : firstK zs = k + 1) :
    Calls Tryd.prog 46 #[.slice a n cap] w (ReadBad w p (k + 1)) := by
  have HV : Hid (Var ((w.alloc (.cells #[.int .i64 0, .int .i64 0, .int .i64 0, .int .i64 0, .int .i64 0, .int .i64 0, .int .i64 0, .int .i64 0, .slice none 0 0, .int .i64 0, .slice none 0 0, .slice none 0 0] 28)).alloc (.cells #[.int .i64 0, .int .i64 0, .int .i64 0, .int .i64 0, .int .i64 0, .int .i64 0, .int .i64 0, .int .i64 0, .slice none 0 0, .int .i64 0, .slice none 0 0, .slice none 0 0] 28)) w.heap.size [.int .i64 0, .int .i64 0, .int .i64 0, .int .i64 0, .int .i64 0, .int .i64 0, .int .i64 0, .int .i64 0, .slice none 0 0, .int .i64 0, .slice none 0 0, .slice none 0 0]) := (var_new w [.int .i64 0, .int .i64 0, .int .i64 0, .int .i64 0, .int .i64 0, .int .i64 0, .int .i64 0, .int .i64 0, .slice none 0 0, .int .i64 0, .slice none 0 0, .slice none 0 0] _).alloc _
  have HO : Hid (Var ((w.alloc (.cells #[.int .i64 0, .int .i64 0, .int .i64 0, .int .i64 0, .int .i64 0, .int .i64 0, .int .i64 0, .int .i64 0, .slice none 0 0, .int .i64 0, .slice none 0 0, .slice none 0 0] 28)).alloc (.cells #[.int .i64 0, .int .i64 0, .int .i64 0, .int .i64 0, .int .i64 0, .int .i64 0, .int .i64 0, .int .i64 0, .slice none 0 0, .int .i64 0, .slice none 0 0, .slice none 0 0] 28)) (w.heap.size + 1) [.int .i64 0, .int .i64 0, .int .i64 0, .int .i64 0, .int .i64 0, .int .i64 0, .int .i64 0, .int .i64 0, .slice none 0 0, .int .i64 0, .slice none 0 0, .slice none 0 0]) := by
    have h1 := var_new (w.alloc (.cells #[.int .i64 0, .int .i64 0, .int .i64 0, .int .i64 0, .int .i64 0, .int .i64 0, .int .i64 0, .int .i64 0, .slice none 0 0, .int .i64 0, .slice none 0 0, .slice none 0 0] 28)) [.int .i64 0, .int .i64 0, .int .i64 0, .int .i64 0, .int .i64 0, .int .i64 0, .int .i64 0, .int .i64 0, .slice none 0 0, .int .i64 0, .slice none 0 0, .slice none 0 0] 28
    rw [size_new] at h1; exact h1
  have HB : Hid (Below w.heap.size w ((w.alloc (.cells #[.int .i64 0, .int .i64 0, .int .i64 0, .int .i64 0, .int .i64 0, .int .i64 0, .int .i64 0, .int .i64 0, .slice none 0 0, .int .i64 0, .slice none 0 0, .slice none 0 0] 28)).alloc (.cells #[.int .i64 0, .int .i64 0, .int .i64 0, .int .i64 0, .int .i64 0, .int .i64 0, .int .i64 0, .int .i64 0, .slice none 0 0, .int .i64 0, .slice none 0 0, .slice none 0 0] 28))) := (below_new' _ _).alloc (by simp) _
  have HE : Hid (EnvAt w p) := hE
  have HS : Hid (Slice w a cap zs) := hS
  have hfirst := fun W (hb : Below w.heap.size w W) => first_any a n cap zs p W hn (hE.below hb (Nat.le_refl _)) (hS.below hb)
  unfold FirstEnd at hfirst
  rw [hk] at hfirst
  clear hE hS hn
  go_enter Tryd.func46, Tryd.ntmps46
  go_upto_region 2 with fail
  generalize ((w.alloc (.cells #[.int .i64 0, .int .i64 0, .int .i64 0, .int .i64 0, .int .i64 0, .int .i64 0, .int .i64 0, .int .i64 0, .slice none 0 0, .int .i64 0, .slice none 0 0, .slice none 0 0] 28)).alloc (.cells #[.int .i64 0, .int .i64 0, .int .i64 0, .int .i64 0, .int .i64 0, .int .i64 0, .int .i64 0, .int .i64 0, .slice none 0 0, .int .i64 0, .slice none 0 0, .slice none 0 0] 28)) = W at *
  go_wp2_with fail
  refine (hfirst _ HB.out).mono ?_
  rintro e w3 ⟨hb, str, rfl⟩
  replace HV : Hid (Var w3 w.heap.size [.int .i64 0, .int .i64 0, .int .i64 0, .int .i64 0, .int .i64 0, .int .i64 0, .int .i64 0, .int .i64 0, .slice none 0 0, .int .i64 0, .slice none 0 0, .slice none 0 0]) := HV.out.below hb HV.out.lt
  replace HO : Hid (Var w3 (w.heap.size + 1) [.int .i64 0, .int .i64 0, .int .i64 0, .int .i64 0, .int .i64 0, .int .i64 0, .int .i64 0, .int .i64 0, .slice none 0 0, .int .i64 0, .slice none 0 0, .slice none 0 0]) := HO.out.below hb HO.out.lt
  replace HB : Hid (Below w.heap.size w w3) := below_more HB.out hb HB.out.size
  clear hb hfirst
  have K3 : Hid (Var ((((((((((((w3.setCell ⟨w.heap.size, 0, none⟩ (.int .i64 0)).setCell ⟨w.heap.size, 1, none⟩ (.int .i64 0)).setCell ⟨w.heap.size, 2, none⟩ (.int .i64 0)).setCell ⟨w.heap.size, 3, none⟩ (.int .i64 0)).setCell ⟨w.heap.size, 4, none⟩ (.int .i64 0)).setCell ⟨w.heap.size, 5, none⟩ (.int .i64 0)).setCell ⟨w.heap.size, 6, none⟩ (.int .i64 0)).setCell ⟨w.heap.size, 7, none⟩ (.int .i64 0)).setCell ⟨w.heap.size, 8, none⟩ (.slice none 0 0)).setCell ⟨w.heap.size, 9, none⟩ (.int .i64 0)).setCell ⟨w.heap.size, 10, none⟩ (.slice none 0 0)).setCell ⟨w.heap.size, 11, none⟩ (.slice none 0 0)) w.heap.size [.int .i64 0, .int .i64 0, .int .i64 0, .int .i64 0, .int .i64 0, .int .i64 0, .int .i64 0, .int .i64 0, .slice none 0 0, .int .i64 0, .slice none 0 0, .slice none 0 0]) := HV.out.put12 (.int .i64 0) (.int .i64 0) (.int .i64 0) (.int .i64 0) (.int .i64 0) (.int .i64 0) (.int .i64 0) (.int .i64 0) (.slice none 0 0) (.int .i64 0) (.slice none 0 0) (.slice none 0 0)
  have K2 : Hid (Below w.heap.size w ((((((((((((w3.setCell ⟨w.heap.size, 0, none⟩ (.int .i64 0)).setCell ⟨w.heap.size, 1, none⟩ (.int .i64 0)).setCell ⟨w.heap.size, 2, none⟩ (.int .i64 0)).setCell ⟨w.heap.size, 3, none⟩ (.int .i64 0)).setCell ⟨w.heap.size, 4, none⟩ (.int .i64 0)).setCell ⟨w.heap.size, 5, none⟩ (.int .i64 0)).setCell ⟨w.heap.size, 6, none⟩ (.int .i64 0)).setCell ⟨w.heap.size, 7, none⟩ (.int .i64 0)).setCell ⟨w.heap.size, 8, none⟩ (.slice none 0 0)).setCell ⟨w.heap.size, 9, none⟩ (.int .i64 0)).setCell ⟨w.heap.size, 10, none⟩ (.slice none 0 0)).setCell ⟨w.heap.size, 11, none⟩ (.slice none 0 0))) := below_put12 HB.out (Nat.le_refl _) (.int .i64 0) (.int .i64 0) (.int .i64 0) (.int .i64 0) (.int .i64 0) (.int .i64 0) (.int .i64 0) (.int .i64 0) (.slice none 0 0) (.int .i64 0) (.slice none 0 0) (.slice none 0 0)
  have a0 := HO.out.cell 0 rfl
  have a1 := HO.out.cell 1 rfl
  have a2 := HO.out.cell 2 rfl
  have a3 := HO.out.cell 3 rfl
  have a4 := HO.out.cell 4 rfl
  have a5 := HO.out.cell 5 rfl
  have a6 := HO.out.cell 6 rfl
  have a7 := HO.out.cell 7 rfl
  have a8 := HO.out.cell 8 rfl
  have a9 := HO.out.cell 9 rfl
  have a10 := HO.out.cell 10 rfl
  have a11 := HO.out.cell 11 rfl
  have r0 := HV.out.cell 0 rfl
  have r1 := HV.out.cell 1 rfl
  have r2 := HV.out.cell 2 rfl
  have r3 := HV.out.cell 3 rfl
  have r4 := HV.out.cell 4 rfl
  have r5 := HV.out.cell 5 rfl
  have r6 := HV.out.cell 6 rfl
  have r7 := HV.out.cell 7 rfl
  have r8 := HV.out.cell 8 rfl
  have r9 := HV.out.cell 9 rfl
  have r10 := HV.out.cell 10 rfl
  have r11 := HV.out.cell 11 rfl
  have q0 := HV.out.frozen 0
  have q1 := HV.out.frozen 1
  have q2 := HV.out.frozen 2
  have q3 := HV.out.frozen 3
  have q4 := HV.out.frozen 4
  have q5 := HV.out.frozen 5
  have q6 := HV.out.frozen 6
  have q7 := HV.out.frozen 7
  have q8 := HV.out.frozen 8
  have q9 := HV.out.frozen 9
  have q10 := HV.out.frozen 10
  have q11 := HV.out.frozen 11
  go_wp2
  clear a0 a1 a2 a3 a4 a5 a6 a7 a8 a9 a10 a11 r0 r1 r2 r3 r4 r5 r6 r7 r8 r9 r10 r11 q0 q1 q2 q3 q4 q5 q6 q7 q8 q9 q10 q11
  generalize ((((((((((((w3.setCell ⟨w.heap.size, 0, none⟩ (.int .i64 0)).setCell ⟨w.heap.size, 1, none⟩ (.int .i64 0)).setCell ⟨w.heap.size, 2, none⟩ (.int .i64 0)).setCell ⟨w.heap.size, 3, none⟩ (.int .i64 0)).setCell ⟨w.heap.size, 4, none⟩ (.int .i64 0)).setCell ⟨w.heap.size, 5, none⟩ (.int .i64 0)).setCell ⟨w.heap.size, 6, none⟩ (.int .i64 0)).setCell ⟨w.heap.size, 7, none⟩ (.int .i64 0)).setCell ⟨w.heap.size, 8, none⟩ (.slice none 0 0)).setCell ⟨w.heap.size, 9, none⟩ (.int .i64 0)).setCell ⟨w.heap.size, 10, none⟩ (.slice none 0 0)).setCell ⟨w.heap.size, 11, none⟩ (.slice none 0 0)) = Z at *
  have c0 := K3.out.cell 0 rfl
  have c1 := K3.out.cell 1 rfl
  have c2 := K3.out.cell 2 rfl
  have c3 := K3.out.cell 3 rfl
  have c4 := K3.out.cell 4 rfl
  have c5 := K3.out.cell 5 rfl
  have c6 := K3.out.cell 6 rfl
  have c7 := K3.out.cell 7 rfl
  have c8 := K3.out.cell 8 rfl
  have c9 := K3.out.cell 9 rfl
  have c10 := K3.out.cell 10 rfl
  have c11 := K3.out.cell 11 rfl
  refine bodyPost_ret (by simp [results, Tryd.results46, go_sem, c0, c1, c2, c3, c4, c5, c6, c7, c8, c9, c10, c11]; try rfl) rfl ?_
  exact ⟨_, rfl, K2.out⟩
set_option maxHeartbeats 3200000 in
set_option maxRecDepth 20000 in
theorem read_body (a : Option Addr) (n cap : Nat) (zs : List Int) (p : Nat → Addr) (w : World) (hn : n = zs.length) (hE : EnvAt w p) (hS : Slice w a cap zs) (hk : firstK zs = 0) (k : Nat) (hbody : ∀ ad c W, EnvAt W p → Slice W ad c ((getB zs).drop 20) → Calls Tryd.prog 71 #[.agg (headA (readHZ (getB zs))), .slice ad ((getB zs).drop 20).length c] W (BodyBad W (readHZ (getB zs)) p k)) :
    Calls Tryd.prog 46 #[.slice a n cap] w (ReadBad w p k) := by
  have HV : Hid (Var ((w.alloc (.cells #[.int .i64 0, .int .i64 0, .int .i64 0, .int .i64 0, .int .i64 0, .int .i64 0, .int .i64 0, .int .i64 0, .slice none 0 0, .int .i64 0, .slice none 0 0, .slice none 0 0] 28)).alloc (.cells #[.int .i64 0, .int .i64 0, .int .i64 0, .int .i64 0, .int .i64 0, .int .i64 0, .int .i64 0, .int .i64 0, .slice none 0 0, .int .i64 0, .slice none 0 0, .slice none 0 0] 28)) w.heap.size [.int .i64 0, .int .i64 0, .int .i64 0, .int .i64 0, .int .i64 0, .int .i64 0, .int .i64 0, .int .i64 0, .slice none 0 0, .int .i64 0, .slice none 0 0, .slice none 0 0]) := (var_new w [.int .i64 0, .int .i64 0, .int .i64 0, .int .i64 0, .int .i64 0, .int .i64 0, .int .i64 0, .int .i64 0, .slice none 0 0, .int .i64 0, .slice none 0 0, .slice none 0 0] _).alloc _
  have HO : Hid (Var ((w.alloc (.cells #[.int .i64 0, .int .i64 0, .int .i64 0, .int .i64 0, .int .i64 0, .int .i64 0, .int .i64 0, .int .i64 0, .slice none 0 0, .int .i64 0, .slice none 0 0, .slice none 0 0] 28)).alloc (.cells #[.int .i64 0, .int .i64 0, .int .i64 0, .int .i64 0, .int .i64 0, .int .i64 0, .int .i64 0, .int .i64 0, .slice none 0 0, .int .i64 0, .slice none 0 0, .slice none 0 0] 28)) (w.heap.size + 1) [.int .i64 0, .int .i64 0, .int .i64 0, .int .i64 0, .int .i64 0, .int .i64 0, .int .i64 0, .int .i64 0, .slice none 0 0, .int .i64 0, .slice none 0 0, .slice none 0 0]) := by
    have h1 := var_new (w.alloc (.cells #[.int .i64 0, .int .i64 0, .int .i64 0, .int .i64 0, .int .i64 0, .int .i64 0, .int .i64 0, .int .i64 0, .slice none 0 0, .int .i64 0, .slice none 0 0, .slice none 0 0] 28)) [.int .i64 0, .int .i64 0, .int .i64 0, .int .i64 0, .int .i64 0, .int .i64 0, .int .i64 0, .int .i64 0, .slice none 0 0, .int .i64 0, .slice none 0 0, .slice none 0 0] 28
    rw [size_new] at h1; exact h1
  have HB : Hid (Below w.heap.size w ((w.alloc (.cells #[.int .i64 0, .int .i64 0, .int .i64 0, .int .i64 0, .int .i64 0, .int .i64 0, .int .i64 0, .int .i64 0, .slice none 0 0, .int .i64 0, .slice none 0 0, .slice none 0 0] 28)).alloc (.cells #[.int .i64 0, .int .i64 0, .int .i64 0, .int .i64 0, .int .i64 0, .int .i64 0, .int .i64 0, .int .i64 0, .slice none 0 0, .int .i64 0, .slice none 0 0, .slice none 0 0] 28))) := (below_new' _ _).alloc (by simp) _
  have HE : Hid (EnvAt w p) := hE
  have HS : Hid (Slice w a cap zs) := hS
  have hfirst := fun W (hb : Below w.heap.size w W) => first_any a n cap zs p W hn (hE.below hb (Nat.le_refl _)) (hS.below hb)
  unfold FirstEnd at hfirst
  rw [hk] at hfirst
  clear hE hS hn
  go_enter Tryd.func46, Tryd.ntmps46
  go_upto_region 2 with fail
  generalize ((w.alloc (.cells #[.int .i64 0, .int .i64 0, .int .i64 0, .int .i64 0, .int .i64 0, .int .i64 0, .int .i64 0, .int .i64 0, .slice none 0 0, .int .i64 0, .slice none 0 0, .slice none 0 0] 28)).alloc (.cells #[.int .i64 0, .int .i64 0, .int .i64 0, .int .i64 0, .int .i64 0, .int .i64 0, .int .i64 0, .int .i64 0, .slice none 0 0, .int .i64 0, .slice none 0 0, .slice none 0 0] 28)) = W at *
  go_wp2_with fail
  refine (hfirst _ HB.out).mono ?_
  rintro e w3 ⟨hb, rfl⟩
  replace HV : Hid (Var w3 w.heap.size [.int .i64 0, .int .i64 0, .int .i64 0, .int .i64 0, .int .i64 0, .int .i64 0, .int .i64 0, .int .i64 0, .slice none 0 0, .int .i64 0, .slice none 0 0, .slice none 0 0]) := HV.out.below hb HV.out.lt
  replace HO : Hid (Var w3 (w.heap.size + 1) [.int .i64 0, .int .i64 0, .int .i64 0, .int .i64 0, .int .i64 0, .int .i64 0, .int .i64 0, .int .i64 0, .slice none 0 0, .int .i64 0, .slice none 0 0, .slice none 0 0]) := HO.out.below hb HO.out.lt
  replace HB : Hid (Below w.heap.size w w3) := below_more HB.out hb HB.out.size
  clear hb hfirst
  have hlen := getB_length hk
  have hz := firstK_zero hk
  have hroom := HS.out.room
  generalize hmm : (lenAt zs).toNat = m at *
  have HM : Hid ((getB zs).length = m) := hlen
  have hm20 : 20 ≤ m := by omega
  have hmc : m ≤ cap := by omega
  have HSB : Hid (Slice w a cap (getB zs)) := slice_take HS.out _
  clear hmm hz hlen hroom hk HS
  obtain ⟨b, off, rfl, _⟩ := slice_some HSB.out (by rw [HM.out]; omega)
  obtain ⟨ad, had, hsl⟩ := slice_ad HSB.out (m := 20) (by rw [HM.out]; omega)
  have HSL : Hid (Slice w ad (cap - 20) ((getB zs).drop 20)) := hsl
  have FR : ∀ X, (Two0 w X) → Calls Tryd.prog 51 #[.slice (some ⟨b, off, none⟩) m cap] X fun e w' => e = .returned (.agg (headA (readHZ (getB zs)))) ∧ (Two0 w w') ∧ Below X.heap.size X w' := by
    intro X hX
    obtain ⟨b', off', e, hcell⟩ := slice_some (HSB.out.below hX.2.2) (by rw [HM.out]; omega)
    cases e
    have hl := HSB.out.len
    refine (readHead_any b off m cap (getB zs) X (fun i hi => hcell i (by rw [HM.out]; exact hi)) HSB.out.bd hm20 (by rw [HM.out] at hl; omega) hmc).mono ?_
    rintro e w' ⟨rfl, hb⟩
    exact ⟨rfl, hX.below hb, hb⟩
  have hbl : ((getB zs).drop 20).length = m - 20 := by rw [List.length_drop, HM.out]
  have FB : ∀ X, (Two0 w X) → Calls Tryd.prog 71 #[.agg (headA (readHZ (getB zs))), .slice ad (m - 20) (cap - 20)] X fun e w' => ∃ str, e = .returned (.tuple #[.agg #[.int .i64 (readHZ (getB zs)).age, .int .i64 (readHZ (getB zs)).kind, .int .i64 (readHZ (getB zs)).id, .int .i64 (readHZ (getB zs)).adv, .int .i64 (readHZ (getB zs)).seq, .int .i64 (readHZ (getB zs)).sum, .int .i64 (readHZ (getB zs)).len, .int .i64 0, .slice none 0 0, .int .i64 0, .slice none 0 0, .slice none 0 0], faultV str (p k)]) ∧ (Two0 w w') ∧ Below X.heap.size X w' := by
    intro X hX
    have hc := hbody ad (cap - 20) X (HE.out.below hX.2.2 (Nat.le_refl _)) (HSL.out.below hX.2.2)
    rw [hbl] at hc
    refine hc.mono ?_
    rintro e w' ⟨str, rfl, hb⟩
    exact ⟨str, rfl, hX.below hb, hb⟩
  have KW3 : Hid (Two0 w w3) := ⟨HV.out, HO.out, HB.out⟩
  have KD3 : Hid (Two0 w w3.drew) := ⟨HV.out.drew, HO.out.drew, HB.out.drew⟩
  clear hbl hbody hsl
  generalize readHZ (getB zs) = h at *
  have i20 : (20 : Int) ≤ (m : Int) := by omega
  have imc : (m : Int) ≤ (cap : Int) := by omega
  have ic2 : (20 : Int) ≤ (cap : Int) := by omega
  go_upto_region 5 with fail
  go_cut [5, 6] from 16 (fun ev v wx => ∃ str g6, ev = faultV str (p k) ∧ v = .pointer (some ⟨g6, 0, none⟩) ∧ Two0 w wx)
  case first =>
    go_region_held3 (fun X => (Two0 w X)) (with_reducible first | exact KW3.out | exact KD3.out | exact hk4 | exact hk5 | exact hk5.put hk4.room _ _ _ _ _ _ _ _ _ _ _ _ | exact hk5.put KW3.out.room _ _ _ _ _ _ _ _ _ _ _ _ | exact (hk5.alloc _).put hk5.room _ _ _ _ _ _ _ _ _ _ _ _ | (repeat (first | refine Two0.drew ?_ | refine Two0.alloc ?_ _)) <;> first | exact KW3.out | exact hk4 | exact hk5 | fail)
      (first | (go_at_call 51; refine (FR _ (by assumption)).mono ?_; rintro e w4 ⟨rfl, hk4, hb4⟩; have hcl4 := fun (p : Addr) (h : p.block < _) => hb4.cell (p := p) h; have hfr4 := fun (p : Addr) (h : p.block < _) => hb4.frozen (p := p) h; have hsz4 := fun (i : Nat) (h : i < _) => Nat.lt_of_lt_of_le h hb4.size) | (go_at_call 71; refine (FB _ (by assumption)).mono ?_; rintro e w5 ⟨str, rfl, hk5, hb5⟩; have hcl5 := fun (p : Addr) (h : p.block < _) => hb5.cell (p := p) h; have hfr5 := fun (p : Addr) (h : p.block < _) => hb5.frozen (p := p) h) | fail)
    all_goals go_wp2
    all_goals go_meet
    · exact ⟨str, _, rfl, rfl, hk5.alloc _⟩
    · exact ⟨str, _, rfl, rfl, hk5.put hk4.room _ _ _ _ _ _ _ _ _ _ _ _⟩
    · exact ⟨str, _, rfl, rfl, hk5.put KW3.out.room _ _ _ _ _ _ _ _ _ _ _ _⟩
  case rest =>
    obtain ⟨str, g6, rfl, rfl, hT⟩ := hcut
    have HV : Hid (Var wc w.heap.size [.int .i64 0, .int .i64 0, .int .i64 0, .int .i64 0, .int .i64 0, .int .i64 0, .int .i64 0, .int .i64 0, .slice none 0 0, .int .i64 0, .slice none 0 0, .slice none 0 0]) := hT.1
    have HO : Hid (Var wc (w.heap.size + 1) [.int .i64 0, .int .i64 0, .int .i64 0, .int .i64 0, .int .i64 0, .int .i64 0, .int .i64 0, .int .i64 0, .slice none 0 0, .int .i64 0, .slice none 0 0, .slice none 0 0]) := hT.2.1
    have HB : Hid (Below w.heap.size w wc) := hT.2.2
    clear hT KW3 KD3 FR FB
    have K3 : Hid (Var ((((((((((((wc.setCell ⟨w.heap.size, 0, none⟩ (.int .i64 0)).setCell ⟨w.heap.size, 1, none⟩ (.int .i64 0)).setCell ⟨w.heap.size, 2, none⟩ (.int .i64 0)).setCell ⟨w.heap.size, 3, none⟩ (.int .i64 0)).setCell ⟨w.heap.size, 4, none⟩ (.int .i64 0)).setCell ⟨w.heap.size, 5, none⟩ (.int .i64 0)).setCell ⟨w.heap.size, 6, none⟩ (.int .i64 0)).setCell ⟨w.heap.size, 7, none⟩ (.int .i64 0)).setCell ⟨w.heap.size, 8, none⟩ (.slice none 0 0)).setCell ⟨w.heap.size, 9, none⟩ (.int .i64 0)).setCell ⟨w.heap.size, 10, none⟩ (.slice none 0 0)).setCell ⟨w.heap.size, 11, none⟩ (.slice none 0 0)) w.heap.size [.int .i64 0, .int .i64 0, .int .i64 0, .int .i64 0, .int .i64 0, .int .i64 0, .int .i64 0, .int .i64 0, .slice none 0 0, .int .i64 0, .slice none 0 0, .slice none 0 0]) := HV.out.put12 (.int .i64 0) (.int .i64 0) (.int .i64 0) (.int .i64 0) (.int .i64 0) (.int .i64 0) (.int .i64 0) (.int .i64 0) (.slice none 0 0) (.int .i64 0) (.slice none 0 0) (.slice none 0 0)
    have K2 : Hid (Below w.heap.size w ((((((((((((wc.setCell ⟨w.heap.size, 0, none⟩ (.int .i64 0)).setCell ⟨w.heap.size, 1, none⟩ (.int .i64 0)).setCell ⟨w.heap.size, 2, none⟩ (.int .i64 0)).setCell ⟨w.heap.size, 3, none⟩ (.int .i64 0)).setCell ⟨w.heap.size, 4, none⟩ (.int .i64 0)).setCell ⟨w.heap.size, 5, none⟩ (.int .i64 0)).setCell ⟨w.heap.size, 6, none⟩ (.int .i64 0)).setCell ⟨w.heap.size, 7, none⟩ (.int .i64 0)).setCell ⟨w.heap.size, 8, none⟩ (.slice none 0 0)).setCell ⟨w.heap.size, 9, none⟩ (.int .i64 0)).setCell ⟨w.heap.size, 10, none⟩ (.slice none 0 0)).setCell ⟨w.heap.size, 11, none⟩ (.slice none 0 0))) := below_put12 HB.out (Nat.le_refl _) (.int .i64 0) (.int .i64 0) (.int .i64 0) (.int .i64 0) (.int .i64 0) (.int .i64 0) (.int .i64 0) (.int .i64 0) (.slice none 0 0) (.int .i64 0) (.slice none 0 0) (.slice none 0 0)
    have a0 := HO.out.cell 0 rfl
    have a1 := HO.out.cell 1 rfl
    have a2 := HO.out.cell 2 rfl
    have a3 := HO.out.cell 3 rfl
    have a4 := HO.out.cell 4 rfl
    have a5 := HO.out.cell 5 rfl
    have a6 := HO.out.cell 6 rfl
    have a7 := HO.out.cell 7 rfl
    have a8 := HO.out.cell 8 rfl
    have a9 := HO.out.cell 9 rfl
    have a10 := HO.out.cell 10 rfl
    have a11 := HO.out.cell 11 rfl
    have r0 := HV.out.cell 0 rfl
    have r1 := HV.out.cell 1 rfl
    have r2 := HV.out.cell 2 rfl
    have r3 := HV.out.cell 3 rfl
    have r4 := HV.out.cell 4 rfl
    have r5 := HV.out.cell 5 rfl
    have r6 := HV.out.cell 6 rfl
    have r7 := HV.out.cell 7 rfl
    have r8 := HV.out.cell 8 rfl
    have r9 := HV.out.cell 9 rfl
    have r10 := HV.out.cell 10 rfl
    have r11 := HV.out.cell 11 rfl
    have q0 := HV.out.frozen 0
    have q1 := HV.out.frozen 1
    have q2 := HV.out.frozen 2
    have q3 := HV.out.frozen 3
    have q4 := HV.out.frozen 4
    have q5 := HV.out.frozen 5
    have q6 := HV.out.frozen 6
    have q7 := HV.out.frozen 7
    have q8 := HV.out.frozen 8
    have q9 := HV.out.frozen 9
    have q10 := HV.out.frozen 10
    have q11 := HV.out.frozen 11
    go_wp2
    clear a0 a1 a2 a3 a4 a5 a6 a7 a8 a9 a10 a11 r0 r1 r2 r3 r4 r5 r6 r7 r8 r9 r10 r11 q0 q1 q2 q3 q4 q5 q6 q7 q8 q9 q10 q11
    generalize ((((((((((((wc.setCell ⟨w.heap.size, 0, none⟩ (.int .i64 0)).setCell ⟨w.heap.size, 1, none⟩ (.int .i64 0)).setCell ⟨w.heap.size, 2, none⟩ (.int .i64 0)).setCell ⟨w.heap.size, 3, none⟩ (.int .i64 0)).setCell ⟨w.heap.size, 4, none⟩ (.int .i64 0)).setCell ⟨w.heap.size, 5, none⟩ (.int .i64 0)).setCell ⟨w.heap.size, 6, none⟩ (.int .i64 0)).setCell ⟨w.heap.size, 7, none⟩ (.int .i64 0)).setCell ⟨w.heap.size, 8, none⟩ (.slice none 0 0)).setCell ⟨w.heap.size, 9, none⟩ (.int .i64 0)).setCell ⟨w.heap.size, 10, none⟩ (.slice none 0 0)).setCell ⟨w.heap.size, 11, none⟩ (.slice none 0 0)) = Z at *
    have c0 := K3.out.cell 0 rfl
    have c1 := K3.out.cell 1 rfl
    have c2 := K3.out.cell 2 rfl
    have c3 := K3.out.cell 3 rfl
    have c4 := K3.out.cell 4 rfl
    have c5 := K3.out.cell 5 rfl
    have c6 := K3.out.cell 6 rfl
    have c7 := K3.out.cell 7 rfl
    have c8 := K3.out.cell 8 rfl
    have c9 := K3.out.cell 9 rfl
    have c10 := K3.out.cell 10 rfl
    have c11 := K3.out.cell 11 rfl
    refine bodyPost_ret (by simp [results, Tryd.results46, go_sem, c0, c1, c2, c3, c4, c5, c6, c7, c8, c9, c10, c11]; try rfl) rfl ?_
    exact ⟨_, rfl, K2.out⟩
end Go.Proofs.YtoanjhccbmifmaaDoor
/- The advertisement that bytes begin with: what is held against it. -/
namespace Go.Proofs.YtoanjhccbmifmaaDoor
open Go.RowKit
set_option linter.unusedVariables false

/-- An advertisement in a variable of the call's own, its lists in new memory. -/
structure GotL (w : World) (l : LsaZ) (g : Nat) (s : Seats) (X : World) : Prop where
  var : Var X g (lsaL s l)
  held : Held X s l
  nils : Nils s
  two : Two0 w X
  lt : w.heap.size + 1 < g
  far : FarS (w.heap.size + 2) s
theorem FarS.mono {M N : Nat} {s : Seats} (h : FarS N s) (hM : M ≤ N) : FarS M s := ⟨h.1.mono hM, h.2.1.mono hM, h.2.2.mono hM⟩
theorem GotL.below {w X Y : World} {l : LsaZ} {g : Nat} {s : Seats} (h : GotL w l g s X) (hb : Below X.heap.size X Y) : GotL w l g s Y :=
  ⟨h.var.below hb h.var.lt, h.held.below hb, h.nils, h.two.below hb, h.lt, h.far⟩
theorem GotL.drew {w X : World} {l : LsaZ} {g : Nat} {s : Seats} (h : GotL w l g s X) : GotL w l g s X.drew := h.below (Below.refl _ _).drew
theorem gotL_new {w X : World} {l : LsaZ} {s1 : Seats} (ht : Two0 w X) (hh : Held X s1 l) (hn : Nils s1) (hf : FarS (w.heap.size + 2) s1) : GotL w l X.heap.size s1 (X.alloc (.cells #[.int .i64 l.head.age, .int .i64 l.head.kind, .int .i64 l.head.id, .int .i64 l.head.adv, .int .i64 l.head.seq, .int .i64 l.head.sum, .int .i64 l.head.len, .int .i64 l.flags, .slice s1.la l.links.length s1.lc, .int .i64 l.bits, .slice s1.ra l.routers.length s1.rc, .slice s1.va l.verts.length s1.vc] 28)) :=
  ⟨var_new X (lsaL s1 l) _, hh.below (below_new' _ _), hn, ht.alloc _, ht.room, hf⟩
theorem gotL_put {w X : World} {l : LsaZ} {s1 : Seats} {g N : Nat} (ht : Two0 w X) (hh : Held X s1 l) (hn : Nils s1) (hf : FarS N s1) (hg : g < N) (hv : Var X g [.int .i64 0, .int .i64 0, .int .i64 0, .int .i64 0, .int .i64 0, .int .i64 0, .int .i64 0, .int .i64 0, .slice none 0 0, .int .i64 0, .slice none 0 0, .slice none 0 0]) (hw : w.heap.size + 1 < g) : GotL w l g s1 ((((((((((((X.setCell ⟨g, 0, none⟩ (.int .i64 l.head.age)).setCell ⟨g, 1, none⟩ (.int .i64 l.head.kind)).setCell ⟨g, 2, none⟩ (.int .i64 l.head.id)).setCell ⟨g, 3, none⟩ (.int .i64 l.head.adv)).setCell ⟨g, 4, none⟩ (.int .i64 l.head.seq)).setCell ⟨g, 5, none⟩ (.int .i64 l.head.sum)).setCell ⟨g, 6, none⟩ (.int .i64 l.head.len)).setCell ⟨g, 7, none⟩ (.int .i64 l.flags)).setCell ⟨g, 8, none⟩ (.slice s1.la l.links.length s1.lc)).setCell ⟨g, 9, none⟩ (.int .i64 l.bits)).setCell ⟨g, 10, none⟩ (.slice s1.ra l.routers.length s1.rc)).setCell ⟨g, 11, none⟩ (.slice s1.va l.verts.length s1.vc)) :=
  ⟨hv.put12 (.int .i64 l.head.age) (.int .i64 l.head.kind) (.int .i64 l.head.id) (.int .i64 l.head.adv) (.int .i64 l.head.seq) (.int .i64 l.head.sum) (.int .i64 l.head.len) (.int .i64 l.flags) (.slice s1.la l.links.length s1.lc) (.int .i64 l.bits) (.slice s1.ra l.routers.length s1.rc) (.slice s1.va l.verts.length s1.vc), ⟨hh.hl.put12 hf.1 hg (.int .i64 l.head.age) (.int .i64 l.head.kind) (.int .i64 l.head.id) (.int .i64 l.head.adv) (.int .i64 l.head.seq) (.int .i64 l.head.sum) (.int .i64 l.head.len) (.int .i64 l.flags) (.slice s1.la l.links.length s1.lc) (.int .i64 l.bits) (.slice s1.ra l.routers.length s1.rc) (.slice s1.va l.verts.length s1.vc), hh.hr.put12 hf.2.1 hg (.int .i64 l.head.age) (.int .i64 l.head.kind) (.int .i64 l.head.id) (.int .i64 l.head.adv) (.int .i64 l.head.seq) (.int .i64 l.head.sum) (.int .i64 l.head.len) (.int .i64 l.flags) (.slice s1.la l.links.length s1.lc) (.int .i64 l.bits) (.slice s1.ra l.routers.length s1.rc) (.slice s1.va l.verts.length s1.vc), hh.hv.put12 hf.2.2 hg (.int .i64 l.head.age) (.int .i64 l.head.kind) (.int .i64 l.head.id) (.int .i64 l.head.adv) (.int .i64 l.head.seq) (.int .i64 l.head.sum) (.int .i64 l.head.len) (.int .i64 l.flags) (.slice s1.la l.links.length s1.lc) (.int .i64 l.bits) (.slice s1.ra l.routers.length s1.rc) (.slice s1.va l.verts.length s1.vc)⟩, hn, ht.put hw (.int .i64 l.head.age) (.int .i64 l.head.kind) (.int .i64 l.head.id) (.int .i64 l.head.adv) (.int .i64 l.head.seq) (.int .i64 l.head.sum) (.int .i64 l.head.len) (.int .i64 l.flags) (.slice s1.la l.links.length s1.lc) (.int .i64 l.bits) (.slice s1.ra l.routers.length s1.rc) (.slice s1.va l.verts.length s1.vc), hw, hf.mono (by omega)⟩
set_option maxHeartbeats 3200000 in
set_option maxRecDepth 20000 in
theorem read_right (a : Option Addr) (n cap : Nat) (zs : List Int) (p : Nat → Addr) (w : World) (hn : n = zs.length) (hE : EnvAt w p) (hS : Slice w a cap zs) (hk : firstK zs = 0) (l : LsaZ) (hm : Mid l) (hbody : ∀ ad c W, EnvAt W p → Slice W ad c ((getB zs).drop 20) → Calls Tryd.prog 71 #[.agg (headA (readHZ (getB zs))), .slice ad ((getB zs).drop 20).length c] W (BodyOk W l)) (hr : rightLsaB l = false) :
    Calls Tryd.prog 46 #[.slice a n cap] w (ReadBad w p 2) := by
  have HRI : Hid (rightLsaB l = false) := hr
  have HM2 : Hid (Mid l) := hm
  clear hr hm
  have HV : Hid (Var ((w.alloc (.cells #[.int .i64 0, .int .i64 0, .int .i64 0, .int .i64 0, .int .i64 0, .int .i64 0, .int .i64 0, .int .i64 0, .slice none 0 0, .int .i64 0, .slice none 0 0, .slice none 0 0] 28)).alloc (.cells #[.int .i64 0, .int .i64 0, .int .i64 0, .int .i64 0, .int .i64 0, .int .i64 0, .int .i64 0, .int .i64 0, .slice none 0 0, .int .i64 0, .slice none 0 0, .slice none 0 0] 28)) w.heap.size [.int .i64 0, .int .i64 0, .int .i64 0, .int .i64 0, .int .i64 0, .int .i64 0, .int .i64 0, .int .i64 0, .slice none 0 0, .int .i64 0, .slice none 0 0, .slice none 0 0]) := (var_new w [.int .i64 0, .int .i64 0, .int .i64 0, .int .i64 0, .int .i64 0, .int .i64 0, .int .i64 0, .int .i64 0, .slice none 0 0, .int .i64 0, .slice none 0 0, .slice none 0 0] _).alloc _
  have HO : Hid (Var ((w.alloc (.cells #[.int .i64 0, .int .i64 0, .int .i64 0, .int .i64 0, .int .i64 0, .int .i64 0, .int .i64 0, .int .i64 0, .slice none 0 0, .int .i64 0, .slice none 0 0, .slice none 0 0] 28)).alloc (.cells #[.int .i64 0, .int .i64 0, .int .i64 0, .int .i64 0, .int .i64 0, .int .i64 0, .int .i64 0, .int .i64 0, .slice none 0 0, .int .i64 0, .slice none 0 0, .slice none 0 0] 28)) (w.heap.size + 1) [.int .i64 0, .int .i64 0, .int .i64 0, .int .i64 0, .int .i64 0, .int .i64 0, .int .i64 0, .int .i64 0, .slice none 0 0, .int .i64 0, .slice none 0 0, .slice none 0 0]) := by
    have h1 := var_new (w.alloc (.cells #[.int .i64 0, .int .i64 0, .int .i64 0, .int .i64 0, .int .i64 0, .int .i64 0, .int .i64 0, .int .i64 0, .slice none 0 0, .int .i64 0, .slice none 0 0, .slice none 0 0] 28)) [.int .i64 0, .int .i64 0, .int .i64 0, .int .i64 0, .int .i64 0, .int .i64 0, .int .i64 0, .int .i64 0, .slice none 0 0, .int .i64 0, .slice none 0 0, .slice none 0 0] 28
    rw [size_new] at h1; exact h1
  have HB : Hid (Below w.heap.size w ((w.alloc (.cells #[.int .i64 0, .int .i64 0, .int .i64 0, .int .i64 0, .int .i64 0, .int .i64 0, .int .i64 0, .int .i64 0, .slice none 0 0, .int .i64 0, .slice none 0 0, .slice none 0 0] 28)).alloc (.cells #[.int .i64 0, .int .i64 0, .int .i64 0, .int .i64 0, .int .i64 0, .int .i64 0, .int .i64 0, .int .i64 0, .slice none 0 0, .int .i64 0, .slice none 0 0, .slice none 0 0] 28))) := (below_new' _ _).alloc (by simp) _
  have HE : Hid (EnvAt w p) := hE
  have HS : Hid (Slice w a cap zs) := hS
  have hfirst := fun W (hb : Below w.heap.size w W) => first_any a n cap zs p W hn (hE.below hb (Nat.le_refl _)) (hS.below hb)
  unfold FirstEnd at hfirst
  rw [hk] at hfirst
  clear hE hS hn
  go_enter Tryd.func46, Tryd.ntmps46
  go_upto_region 2 with fail
  generalize ((w.alloc (.cells #[.int .i64 0, .int .i64 0, .int .i64 0, .int .i64 0, .int .i64 0, .int .i64 0, .int .i64 0, .int .i64 0, .slice none 0 0, .int .i64 0, .slice none 0 0, .slice none 0 0] 28)).alloc (.cells #[.int .i64 0, .int .i64 0, .int .i64 0, .int .i64 0, .int .i64 0, .int .i64 0, .int .i64 0, .int .i64 0, .slice none 0 0, .int .i64 0, .slice none 0 0, .slice none 0 0] 28)) = W at *
  go_wp2_with fail
  refine (hfirst _ HB.out).mono ?_
  rintro e w3 ⟨hb, rfl⟩
  replace HV : Hid (Var w3 w.heap.size [.int .i64 0, .int .i64 0, .int .i64 0, .int .i64 0, .int .i64 0, .int .i64 0, .int .i64 0, .int .i64 0, .slice none 0 0, .int .i64 0, .slice none 0 0, .slice none 0 0]) := HV.out.below hb HV.out.lt
  replace HO : Hid (Var w3 (w.heap.size + 1) [.int .i64 0, .int .i64 0, .int .i64 0, .int .i64 0, .int .i64 0, .int .i64 0, .int .i64 0, .int .i64 0, .slice none 0 0, .int .i64 0, .slice none 0 0, .slice none 0 0]) := HO.out.below hb HO.out.lt
  replace HB : Hid (Below w.heap.size w w3) := below_more HB.out hb HB.out.size
  clear hb hfirst
  have hlen := getB_length hk
  have hz := firstK_zero hk
  have hroom := HS.out.room
  generalize hmm : (lenAt zs).toNat = m at *
  have HM : Hid ((getB zs).length = m) := hlen
  have hm20 : 20 ≤ m := by omega
  have hmc : m ≤ cap := by omega
  have HSB : Hid (Slice w a cap (getB zs)) := slice_take HS.out _
  clear hmm hz hlen hroom hk HS
  obtain ⟨b, off, rfl, _⟩ := slice_some HSB.out (by rw [HM.out]; omega)
  obtain ⟨ad, had, hsl⟩ := slice_ad HSB.out (m := 20) (by rw [HM.out]; omega)
  have HSL : Hid (Slice w ad (cap - 20) ((getB zs).drop 20)) := hsl
  have FR : ∀ X, (Two0 w X) → Calls Tryd.prog 51 #[.slice (some ⟨b, off, none⟩) m cap] X fun e w' => e = .returned (.agg (headA (readHZ (getB zs)))) ∧ (Two0 w w') ∧ Below X.heap.size X w' := by
    intro X hX
    obtain ⟨b', off', e, hcell⟩ := slice_some (HSB.out.below hX.2.2) (by rw [HM.out]; omega)
    cases e
    have hl := HSB.out.len
    refine (readHead_any b off m cap (getB zs) X (fun i hi => hcell i (by rw [HM.out]; exact hi)) HSB.out.bd hm20 (by rw [HM.out] at hl; omega) hmc).mono ?_
    rintro e w' ⟨rfl, hb⟩
    exact ⟨rfl, hX.below hb, hb⟩
  have hbl : ((getB zs).drop 20).length = m - 20 := by rw [List.length_drop, HM.out]
  have FB : ∀ X, (Two0 w X) → Calls Tryd.prog 71 #[.agg (headA (readHZ (getB zs))), .slice ad (m - 20) (cap - 20)] X fun e w' => ∃ s1, e = .returned (.tuple #[.agg (lsaA s1 l), .nilIface]) ∧ Held w' s1 l ∧ Nils s1 ∧ FarS X.heap.size s1 ∧ (Two0 w w') ∧ Below X.heap.size X w' := by
    intro X hX
    have hc := hbody ad (cap - 20) X (HE.out.below hX.2.2 (Nat.le_refl _)) (HSL.out.below hX.2.2)
    rw [hbl] at hc
    refine hc.mono ?_
    rintro e w' ⟨s1, rfl, hh, hn, hf, hb⟩
    exact ⟨s1, rfl, hh, hn, hf, hX.below hb, hb⟩
  have KW3 : Hid (Two0 w w3) := ⟨HV.out, HO.out, HB.out⟩
  have KD3 : Hid (Two0 w w3.drew) := ⟨HV.out.drew, HO.out.drew, HB.out.drew⟩
  clear hbl hbody hsl
  generalize readHZ (getB zs) = h at *
  have i20 : (20 : Int) ≤ (m : Int) := by omega
  have imc : (m : Int) ≤ (cap : Int) := by omega
  have ic2 : (20 : Int) ≤ (cap : Int) := by omega
  go_upto_region 5 with fail
  go_cut [5, 6] from 16 (fun ev v wx => ∃ s1 g6, ev = .nilIface ∧ v = .pointer (some ⟨g6, 0, none⟩) ∧ GotL w l g6 s1 wx)
  case first =>
    go_region_held3 (fun X => (Two0 w X)) (with_reducible first | exact KW3.out | exact KD3.out | exact hk4 | exact hk5 | exact hk5.put hk4.room _ _ _ _ _ _ _ _ _ _ _ _ | exact hk5.put KW3.out.room _ _ _ _ _ _ _ _ _ _ _ _ | exact (hk5.alloc _).put hk5.room _ _ _ _ _ _ _ _ _ _ _ _ | (repeat (first | refine Two0.drew ?_ | refine Two0.alloc ?_ _)) <;> first | exact KW3.out | exact hk4 | exact hk5 | fail)
      (first | (go_at_call 51; refine (FR _ (by assumption)).mono ?_; rintro e w4 ⟨rfl, hk4, hb4⟩; have hcl4 := fun (p : Addr) (h : p.block < _) => hb4.cell (p := p) h; have hfr4 := fun (p : Addr) (h : p.block < _) => hb4.frozen (p := p) h; have hsz4 := fun (i : Nat) (h : i < _) => Nat.lt_of_lt_of_le h hb4.size) | (go_at_call 71; refine (FB _ (by assumption)).mono ?_; rintro e w5 ⟨s1, rfl, hh, hn, hf, hk5, hb5⟩; have hcl5 := fun (p : Addr) (h : p.block < _) => hb5.cell (p := p) h; have hfr5 := fun (p : Addr) (h : p.block < _) => hb5.frozen (p := p) h) | fail)
    all_goals go_wp2
    all_goals go_meet
    · exact ⟨s1, _, rfl, rfl, gotL_new hk5 hh hn (hf.mono hk4.room)⟩
    · exact ⟨s1, _, rfl, rfl, gotL_put hk5 hh hn hf (by simp) ((var_new w4 [.int .i64 0, .int .i64 0, .int .i64 0, .int .i64 0, .int .i64 0, .int .i64 0, .int .i64 0, .int .i64 0, .slice none 0 0, .int .i64 0, .slice none 0 0, .slice none 0 0] _).below hb5 (by simp)) hk4.room⟩
    · exact ⟨s1, _, rfl, rfl, gotL_put hk5 hh hn hf (hsz4 _ (by simp)) (((var_new w3 [.int .i64 0, .int .i64 0, .int .i64 0, .int .i64 0, .int .i64 0, .int .i64 0, .int .i64 0, .int .i64 0, .slice none 0 0, .int .i64 0, .slice none 0 0, .slice none 0 0] _).drew.below hb4 (by simp)).below hb5 (hsz4 _ (by simp))) KW3.out.room⟩
  case rest =>
    obtain ⟨s1, g6, rfl, rfl, hG⟩ := hcut
    have HG : Hid (GotL w l g6 s1 wc) := hG
    clear hG KW3 KD3 FR FB HV HO HB
    have y0 := HG.out.var.cell 0 rfl
    have y1 := HG.out.var.cell 1 rfl
    have y2 := HG.out.var.cell 2 rfl
    have y3 := HG.out.var.cell 3 rfl
    have y4 := HG.out.var.cell 4 rfl
    have y5 := HG.out.var.cell 5 rfl
    have y6 := HG.out.var.cell 6 rfl
    have y7 := HG.out.var.cell 7 rfl
    have y8 := HG.out.var.cell 8 rfl
    have y9 := HG.out.var.cell 9 rfl
    have y10 := HG.out.var.cell 10 rfl
    have y11 := HG.out.var.cell 11 rfl
    go_wp2_with fail
    refine (rightLsa_any s1 l wc HG.out.held HM2.out.fits).mono ?_
    rintro e v1 ⟨rfl, hb⟩
    rw [HRI.out]
    replace HG : Hid (GotL w l g6 s1 v1) := HG.out.below hb
    clear hb y0 y1 y2 y3 y4 y5 y6 y7 y8 y9 y10 y11
    go_upto_region 9 with fail
    have HT : Hid (Two0 w v1) := HG.out.two
    have KS : Hid (∀ X, Two0 w X → X.cell? ⟨w.heap.size + 1, 0, none⟩ = some (.int .i64 0) ∧ X.cell? ⟨w.heap.size + 1, 1, none⟩ = some (.int .i64 0) ∧ X.cell? ⟨w.heap.size + 1, 2, none⟩ = some (.int .i64 0) ∧ X.cell? ⟨w.heap.size + 1, 3, none⟩ = some (.int .i64 0) ∧ X.cell? ⟨w.heap.size + 1, 4, none⟩ = some (.int .i64 0) ∧ X.cell? ⟨w.heap.size + 1, 5, none⟩ = some (.int .i64 0) ∧ X.cell? ⟨w.heap.size + 1, 6, none⟩ = some (.int .i64 0) ∧ X.cell? ⟨w.heap.size + 1, 7, none⟩ = some (.int .i64 0) ∧ X.cell? ⟨w.heap.size + 1, 8, none⟩ = some (.slice none 0 0) ∧ X.cell? ⟨w.heap.size + 1, 9, none⟩ = some (.int .i64 0) ∧ X.cell? ⟨w.heap.size + 1, 10, none⟩ = some (.slice none 0 0) ∧ X.cell? ⟨w.heap.size + 1, 11, none⟩ = some (.slice none 0 0) ∧ X.cell? ⟨2, 0, none⟩ = some (.iface 125 (.pointer (some (p 2)))) ∧ Two0 w X) := fun X h => ⟨h.2.1.cell 0 rfl, h.2.1.cell 1 rfl, h.2.1.cell 2 rfl, h.2.1.cell 3 rfl, h.2.1.cell 4 rfl, h.2.1.cell 5 rfl, h.2.1.cell 6 rfl, h.2.1.cell 7 rfl, h.2.1.cell 8 rfl, h.2.1.cell 9 rfl, h.2.1.cell 10 rfl, h.2.1.cell 11 rfl, (HE.out.below h.2.2 (Nat.le_refl _)).var 2 (by decide), h⟩
    have KA : Hid (Two0 w v1) := HT.out
    have KB : Hid (Two0 w v1.drew) := HT.out.drew
    have KC : Hid (Two0 w ((((((((((((v1.setCell ⟨w.heap.size, 0, none⟩ (.int .i64 0)).setCell ⟨w.heap.size, 1, none⟩ (.int .i64 0)).setCell ⟨w.heap.size, 2, none⟩ (.int .i64 0)).setCell ⟨w.heap.size, 3, none⟩ (.int .i64 0)).setCell ⟨w.heap.size, 4, none⟩ (.int .i64 0)).setCell ⟨w.heap.size, 5, none⟩ (.int .i64 0)).setCell ⟨w.heap.size, 6, none⟩ (.int .i64 0)).setCell ⟨w.heap.size, 7, none⟩ (.int .i64 0)).setCell ⟨w.heap.size, 8, none⟩ (.slice none 0 0)).setCell ⟨w.heap.size, 9, none⟩ (.int .i64 0)).setCell ⟨w.heap.size, 10, none⟩ (.slice none 0 0)).setCell ⟨w.heap.size, 11, none⟩ (.slice none 0 0))) := HT.out.self
    have KD : Hid (Two0 w ((((((((((((v1.setCell ⟨w.heap.size, 0, none⟩ (.int .i64 0)).setCell ⟨w.heap.size, 1, none⟩ (.int .i64 0)).setCell ⟨w.heap.size, 2, none⟩ (.int .i64 0)).setCell ⟨w.heap.size, 3, none⟩ (.int .i64 0)).setCell ⟨w.heap.size, 4, none⟩ (.int .i64 0)).setCell ⟨w.heap.size, 5, none⟩ (.int .i64 0)).setCell ⟨w.heap.size, 6, none⟩ (.int .i64 0)).setCell ⟨w.heap.size, 7, none⟩ (.int .i64 0)).setCell ⟨w.heap.size, 8, none⟩ (.slice none 0 0)).setCell ⟨w.heap.size, 9, none⟩ (.int .i64 0)).setCell ⟨w.heap.size, 10, none⟩ (.slice none 0 0)).setCell ⟨w.heap.size, 11, none⟩ (.slice none 0 0)).drew) := HT.out.self.drew
    have HV : Hid (Var v1 w.heap.size [.int .i64 0, .int .i64 0, .int .i64 0, .int .i64 0, .int .i64 0, .int .i64 0, .int .i64 0, .int .i64 0, .slice none 0 0, .int .i64 0, .slice none 0 0, .slice none 0 0]) := HT.out.1
    have r0 := HV.out.cell 0 rfl
    have q0 := HV.out.frozen 0
    have r1 := HV.out.cell 1 rfl
    have q1 := HV.out.frozen 1
    have r2 := HV.out.cell 2 rfl
    have q2 := HV.out.frozen 2
    have r3 := HV.out.cell 3 rfl
    have q3 := HV.out.frozen 3
    have r4 := HV.out.cell 4 rfl
    have q4 := HV.out.frozen 4
    have r5 := HV.out.cell 5 rfl
    have q5 := HV.out.frozen 5
    have r6 := HV.out.cell 6 rfl
    have q6 := HV.out.frozen 6
    have r7 := HV.out.cell 7 rfl
    have q7 := HV.out.frozen 7
    have r8 := HV.out.cell 8 rfl
    have q8 := HV.out.frozen 8
    have r9 := HV.out.cell 9 rfl
    have q9 := HV.out.frozen 9
    have r10 := HV.out.cell 10 rfl
    have q10 := HV.out.frozen 10
    have r11 := HV.out.cell 11 rfl
    have q11 := HV.out.frozen 11
    go_region_held3 (fun X => X.cell? ⟨w.heap.size + 1, 0, none⟩ = some (.int .i64 0) ∧ X.cell? ⟨w.heap.size + 1, 1, none⟩ = some (.int .i64 0) ∧ X.cell? ⟨w.heap.size + 1, 2, none⟩ = some (.int .i64 0) ∧ X.cell? ⟨w.heap.size + 1, 3, none⟩ = some (.int .i64 0) ∧ X.cell? ⟨w.heap.size + 1, 4, none⟩ = some (.int .i64 0) ∧ X.cell? ⟨w.heap.size + 1, 5, none⟩ = some (.int .i64 0) ∧ X.cell? ⟨w.heap.size + 1, 6, none⟩ = some (.int .i64 0) ∧ X.cell? ⟨w.heap.size + 1, 7, none⟩ = some (.int .i64 0) ∧ X.cell? ⟨w.heap.size + 1, 8, none⟩ = some (.slice none 0 0) ∧ X.cell? ⟨w.heap.size + 1, 9, none⟩ = some (.int .i64 0) ∧ X.cell? ⟨w.heap.size + 1, 10, none⟩ = some (.slice none 0 0) ∧ X.cell? ⟨w.heap.size + 1, 11, none⟩ = some (.slice none 0 0) ∧ X.cell? ⟨2, 0, none⟩ = some (.iface 125 (.pointer (some (p 2)))) ∧ Two0 w X) (with_reducible first | exact KS.out _ KA.out | exact KS.out _ KB.out | exact KS.out _ KC.out | exact KS.out _ KD.out | fail)
      (first | (go_at_call 56; refine (wrap_any _ _ _ _).mono ?_; rintro e w' ⟨rfl, rfl⟩) | fail)
    rename_i hH
    clear hH KS KA KB KC HV r0 r1 r2 r3 r4 r5 r6 r7 r8 r9 r10 r11 q0 q1 q2 q3 q4 q5 q6 q7 q8 q9 q10 q11
    generalize ((((((((((((v1.setCell ⟨w.heap.size, 0, none⟩ (.int .i64 0)).setCell ⟨w.heap.size, 1, none⟩ (.int .i64 0)).setCell ⟨w.heap.size, 2, none⟩ (.int .i64 0)).setCell ⟨w.heap.size, 3, none⟩ (.int .i64 0)).setCell ⟨w.heap.size, 4, none⟩ (.int .i64 0)).setCell ⟨w.heap.size, 5, none⟩ (.int .i64 0)).setCell ⟨w.heap.size, 6, none⟩ (.int .i64 0)).setCell ⟨w.heap.size, 7, none⟩ (.int .i64 0)).setCell ⟨w.heap.size, 8, none⟩ (.slice none 0 0)).setCell ⟨w.heap.size, 9, none⟩ (.int .i64 0)).setCell ⟨w.heap.size, 10, none⟩ (.slice none 0 0)).setCell ⟨w.heap.size, 11, none⟩ (.slice none 0 0)).drew = Z at *
    have c0 := KD.out.1.cell 0 rfl
    have c1 := KD.out.1.cell 1 rfl
    have c2 := KD.out.1.cell 2 rfl
    have c3 := KD.out.1.cell 3 rfl
    have c4 := KD.out.1.cell 4 rfl
    have c5 := KD.out.1.cell 5 rfl
    have c6 := KD.out.1.cell 6 rfl
    have c7 := KD.out.1.cell 7 rfl
    have c8 := KD.out.1.cell 8 rfl
    have c9 := KD.out.1.cell 9 rfl
    have c10 := KD.out.1.cell 10 rfl
    have c11 := KD.out.1.cell 11 rfl
    go_wp2
    refine bodyPost_ret (by simp [results, Tryd.results46, go_sem, c0, c1, c2, c3, c4, c5, c6, c7, c8, c9, c10, c11]; try rfl) rfl ?_
    exact ⟨_, rfl, KD.out.2.2⟩
end Go.Proofs.YtoanjhccbmifmaaDoor
/- The advertisement that bytes begin with: its bytes and its seal. -/
namespace Go.Proofs.YtoanjhccbmifmaaDoor
open Go.RowKit
set_option linter.unusedVariables false

set_option maxHeartbeats 3200000 in
set_option maxRecDepth 20000 in
theorem read_bytes (a : Option Addr) (n cap : Nat) (zs : List Int) (p : Nat → Addr) (w : World) (hn : n = zs.length) (hE : EnvAt w p) (hS : Slice w a cap zs) (hk : firstK zs = 0) (l : LsaZ) (hm : Mid l) (hbody : ∀ ad c W, EnvAt W p → Slice W ad c ((getB zs).drop 20) → Calls Tryd.prog 71 #[.agg (headA (readHZ (getB zs))), .slice ad ((getB zs).drop 20).length c] W (BodyOk W l)) (hr : rightLsaB l = true) (hq : decide (layZ l = getB zs) = false) :
    Calls Tryd.prog 46 #[.slice a n cap] w (ReadBad w p 2) := by
  have HRI : Hid (rightLsaB l = true) := hr
  have HEQ : Hid (decide (layZ l = getB zs) = false) := hq
  have HM2 : Hid (Mid l) := hm
  clear hr hm hq
  have HV : Hid (Var ((w.alloc (.cells #[.int .i64 0, .int .i64 0, .int .i64 0, .int .i64 0, .int .i64 0, .int .i64 0, .int .i64 0, .int .i64 0, .slice none 0 0, .int .i64 0, .slice none 0 0, .slice none 0 0] 28)).alloc (.cells #[.int .i64 0, .int .i64 0, .int .i64 0, .int .i64 0, .int .i64 0, .int .i64 0, .int .i64 0, .int .i64 0, .slice none 0 0, .int .i64 0, .slice none 0 0, .slice none 0 0] 28)) w.heap.size [.int .i64 0, .int .i64 0, .int .i64 0, .int .i64 0, .int .i64 0, .int .i64 0, .int .i64 0, .int .i64 0, .slice none 0 0, .int .i64 0, .slice none 0 0, .slice none 0 0]) := (var_new w [.int .i64 0, .int .i64 0, .int .i64 0, .int .i64 0, .int .i64 0, .int .i64 0, .int .i64 0, .int .i64 0, .slice none 0 0, .int .i64 0, .slice none 0 0, .slice none 0 0] _).alloc _
  have HO : Hid (Var ((w.alloc (.cells #[.int .i64 0, .int .i64 0, .int .i64 0, .int .i64 0, .int .i64 0, .int .i64 0, .int .i64 0, .int .i64 0, .slice none 0 0, .int .i64 0, .slice none 0 0, .slice none 0 0] 28)).alloc (.cells #[.int .i64 0, .int .i64 0, .int .i64 0, .int .i64 0, .int .i64 0, .int .i64 0, .int .i64 0, .int .i64 0, .slice none 0 0, .int .i64 0, .slice none 0 0, .slice none 0 0] 28)) (w.heap.size + 1) [.int .i64 0, .int .i64 0, .int .i64 0, .int .i64 0, .int .i64 0, .int .i64 0, .int .i64 0, .int .i64 0, .slice none 0 0, .int .i64 0, .slice none 0 0, .slice none 0 0]) := by
    have h1 := var_new (w.alloc (.cells #[.int .i64 0, .int .i64 0, .int .i64 0, .int .i64 0, .int .i64 0, .int .i64 0, .int .i64 0, .int .i64 0, .slice none 0 0, .int .i64 0, .slice none 0 0, .slice none 0 0] 28)) [.int .i64 0, .int .i64 0, .int .i64 0, .int .i64 0, .int .i64 0, .int .i64 0, .int .i64 0, .int .i64 0, .slice none 0 0, .int .i64 0, .slice none 0 0, .slice none 0 0] 28
    rw [size_new] at h1; exact h1
  have HB : Hid (Below w.heap.size w ((w.alloc (.cells #[.int .i64 0, .int .i64 0, .int .i64 0, .int .i64 0, .int .i64 0, .int .i64 0, .int .i64 0, .int .i64 0, .slice none 0 0, .int .i64 0, .slice none 0 0, .slice none 0 0] 28)).alloc (.cells #[.int .i64 0, .int .i64 0, .int .i64 0, .int .i64 0, .int .i64 0, .int .i64 0, .int .i64 0, .int .i64 0, .slice none 0 0, .int .i64 0, .slice none 0 0, .slice none 0 0] 28))) := (below_new' _ _).alloc (by simp) _
  have HE : Hid (EnvAt w p) := hE
  have HS : Hid (Slice w a cap zs) := hS
  have hfirst := fun W (hb : Below w.heap.size w W) => first_any a n cap zs p W hn (hE.below hb (Nat.le_refl _)) (hS.below hb)
  unfold FirstEnd at hfirst
  rw [hk] at hfirst
  clear hE hS hn
  go_enter Tryd.func46, Tryd.ntmps46
  go_upto_region 2 with fail
  generalize ((w.alloc (.cells #[.int .i64 0, .int .i64 0, .int .i64 0, .int .i64 0, .int .i64 0, .int .i64 0, .int .i64 0, .int .i64 0, .slice none 0 0, .int .i64 0, .slice none 0 0, .slice none 0 0] 28)).alloc (.cells #[.int .i64 0, .int .i64 0, .int .i64 0, .int .i64 0, .int .i64 0, .int .i64 0, .int .i64 0, .int .i64 0, .slice none 0 0, .int .i64 0, .slice none 0 0, .slice none 0 0] 28)) = W at *
  go_wp2_with fail
  refine (hfirst _ HB.out).mono ?_
  rintro e w3 ⟨hb, rfl⟩
  replace HV : Hid (Var w3 w.heap.size [.int .i64 0, .int .i64 0, .int .i64 0, .int .i64 0, .int .i64 0, .int .i64 0, .int .i64 0, .int .i64 0, .slice none 0 0, .int .i64 0, .slice none 0 0, .slice none 0 0]) := HV.out.below hb HV.out.lt
  replace HO : Hid (Var w3 (w.heap.size + 1) [.int .i64 0, .int .i64 0, .int .i64 0, .int .i64 0, .int .i64 0, .int .i64 0, .int .i64 0, .int .i64 0, .slice none 0 0, .int .i64 0, .slice none 0 0, .slice none 0 0]) := HO.out.below hb HO.out.lt
  replace HB : Hid (Below w.heap.size w w3) := below_more HB.out hb HB.out.size
  clear hb hfirst
  have hlen := getB_length hk
  have hz := firstK_zero hk
  have hroom := HS.out.room
  generalize hmm : (lenAt zs).toNat = m at *
  have HM : Hid ((getB zs).length = m) := hlen
  have hm20 : 20 ≤ m := by omega
  have hmc : m ≤ cap := by omega
  have HSB : Hid (Slice w a cap (getB zs)) := slice_take HS.out _
  clear hmm hz hlen hroom hk HS
  obtain ⟨b, off, rfl, _⟩ := slice_some HSB.out (by rw [HM.out]; omega)
  obtain ⟨ad, had, hsl⟩ := slice_ad HSB.out (m := 20) (by rw [HM.out]; omega)
  have HSL : Hid (Slice w ad (cap - 20) ((getB zs).drop 20)) := hsl
  have FR : ∀ X, (Two0 w X) → Calls Tryd.prog 51 #[.slice (some ⟨b, off, none⟩) m cap] X fun e w' => e = .returned (.agg (headA (readHZ (getB zs)))) ∧ (Two0 w w') ∧ Below X.heap.size X w' := by
    intro X hX
    obtain ⟨b', off', e, hcell⟩ := slice_some (HSB.out.below hX.2.2) (by rw [HM.out]; omega)
    cases e
    have hl := HSB.out.len
    refine (readHead_any b off m cap (getB zs) X (fun i hi => hcell i (by rw [HM.out]; exact hi)) HSB.out.bd hm20 (by rw [HM.out] at hl; omega) hmc).mono ?_
    rintro e w' ⟨rfl, hb⟩
    exact ⟨rfl, hX.below hb, hb⟩
  have hbl : ((getB zs).drop 20).length = m - 20 := by rw [List.length_drop, HM.out]
  have FB : ∀ X, (Two0 w X) → Calls Tryd.prog 71 #[.agg (headA (readHZ (getB zs))), .slice ad (m - 20) (cap - 20)] X fun e w' => ∃ s1, e = .returned (.tuple #[.agg (lsaA s1 l), .nilIface]) ∧ Held w' s1 l ∧ Nils s1 ∧ FarS X.heap.size s1 ∧ (Two0 w w') ∧ Below X.heap.size X w' := by
    intro X hX
    have hc := hbody ad (cap - 20) X (HE.out.below hX.2.2 (Nat.le_refl _)) (HSL.out.below hX.2.2)
    rw [hbl] at hc
    refine hc.mono ?_
    rintro e w' ⟨s1, rfl, hh, hn, hf, hb⟩
    exact ⟨s1, rfl, hh, hn, hf, hX.below hb, hb⟩
  have KW3 : Hid (Two0 w w3) := ⟨HV.out, HO.out, HB.out⟩
  have KD3 : Hid (Two0 w w3.drew) := ⟨HV.out.drew, HO.out.drew, HB.out.drew⟩
  clear hbl hbody hsl
  generalize readHZ (getB zs) = h at *
  have i20 : (20 : Int) ≤ (m : Int) := by omega
  have imc : (m : Int) ≤ (cap : Int) := by omega
  have ic2 : (20 : Int) ≤ (cap : Int) := by omega
  go_upto_region 5 with fail
  go_cut [5, 6] from 16 (fun ev v wx => ∃ s1 g6, ev = .nilIface ∧ v = .pointer (some ⟨g6, 0, none⟩) ∧ GotL w l g6 s1 wx)
  case first =>
    go_region_held3 (fun X => (Two0 w X)) (with_reducible first | exact KW3.out | exact KD3.out | exact hk4 | exact hk5 | exact hk5.put hk4.room _ _ _ _ _ _ _ _ _ _ _ _ | exact hk5.put KW3.out.room _ _ _ _ _ _ _ _ _ _ _ _ | exact (hk5.alloc _).put hk5.room _ _ _ _ _ _ _ _ _ _ _ _ | (repeat (first | refine Two0.drew ?_ | refine Two0.alloc ?_ _)) <;> first | exact KW3.out | exact hk4 | exact hk5 | fail)
      (first | (go_at_call 51; refine (FR _ (by assumption)).mono ?_; rintro e w4 ⟨rfl, hk4, hb4⟩; have hcl4 := fun (p : Addr) (h : p.block < _) => hb4.cell (p := p) h; have hfr4 := fun (p : Addr) (h : p.block < _) => hb4.frozen (p := p) h; have hsz4 := fun (i : Nat) (h : i < _) => Nat.lt_of_lt_of_le h hb4.size) | (go_at_call 71; refine (FB _ (by assumption)).mono ?_; rintro e w5 ⟨s1, rfl, hh, hn, hf, hk5, hb5⟩; have hcl5 := fun (p : Addr) (h : p.block < _) => hb5.cell (p := p) h; have hfr5 := fun (p : Addr) (h : p.block < _) => hb5.frozen (p := p) h) | fail)
    all_goals go_wp2
    all_goals go_meet
    · exact ⟨s1, _, rfl, rfl, gotL_new hk5 hh hn (hf.mono hk4.room)⟩
    · exact ⟨s1, _, rfl, rfl, gotL_put hk5 hh hn hf (by simp) ((var_new w4 [.int .i64 0, .int .i64 0, .int .i64 0, .int .i64 0, .int .i64 0, .int .i64 0, .int .i64 0, .int .i64 0, .slice none 0 0, .int .i64 0, .slice none 0 0, .slice none 0 0] _).below hb5 (by simp)) hk4.room⟩
    · exact ⟨s1, _, rfl, rfl, gotL_put hk5 hh hn hf (hsz4 _ (by simp)) (((var_new w3 [.int .i64 0, .int .i64 0, .int .i64 0, .int .i64 0, .int .i64 0, .int .i64 0, .int .i64 0, .int .i64 0, .slice none 0 0, .int .i64 0, .slice none 0 0, .slice none 0 0] _).drew.below hb4 (by simp)).below hb5 (hsz4 _ (by simp))) KW3.out.room⟩
  case rest =>
    obtain ⟨s1, g6, rfl, rfl, hG⟩ := hcut
    have HG : Hid (GotL w l g6 s1 wc) := hG
    clear hG KW3 KD3 FR FB HV HO HB
    have y0 := HG.out.var.cell 0 rfl
    have y1 := HG.out.var.cell 1 rfl
    have y2 := HG.out.var.cell 2 rfl
    have y3 := HG.out.var.cell 3 rfl
    have y4 := HG.out.var.cell 4 rfl
    have y5 := HG.out.var.cell 5 rfl
    have y6 := HG.out.var.cell 6 rfl
    have y7 := HG.out.var.cell 7 rfl
    have y8 := HG.out.var.cell 8 rfl
    have y9 := HG.out.var.cell 9 rfl
    have y10 := HG.out.var.cell 10 rfl
    have y11 := HG.out.var.cell 11 rfl
    go_wp2_with fail
    refine (rightLsa_any s1 l wc HG.out.held HM2.out.fits).mono ?_
    rintro e v1 ⟨rfl, hb⟩
    rw [HRI.out]
    replace HG : Hid (GotL w l g6 s1 v1) := HG.out.below hb
    clear hb y0 y1 y2 y3 y4 y5 y6 y7 y8 y9 y10 y11
    have y0 := HG.out.var.cell 0 rfl
    have y1 := HG.out.var.cell 1 rfl
    have y2 := HG.out.var.cell 2 rfl
    have y3 := HG.out.var.cell 3 rfl
    have y4 := HG.out.var.cell 4 rfl
    have y5 := HG.out.var.cell 5 rfl
    have y6 := HG.out.var.cell 6 rfl
    have y7 := HG.out.var.cell 7 rfl
    have y8 := HG.out.var.cell 8 rfl
    have y9 := HG.out.var.cell 9 rfl
    have y10 := HG.out.var.cell 10 rfl
    have y11 := HG.out.var.cell 11 rfl
    go_wp2_with fail
    refine (lay_any s1 l v1 HG.out.held HM2.out).mono ?_
    rintro e v2 ⟨gl, cl, rfl, ho, hb⟩
    have heq := equal_any (some ⟨gl, 0, none⟩) (some ⟨b, off, none⟩) (layZ l).length m cl cap (layZ l) (getB zs) v2 rfl HM.out.symm ho.bts (HSB.out.bts.below (below_more HG.out.two.2.2 hb HG.out.two.2.2.size)) (layZ_bd _) HSB.out.bd
    rw [HEQ.out] at heq
    replace HG : Hid (GotL w l g6 s1 v2) := HG.out.below hb
    clear hb ho y0 y1 y2 y3 y4 y5 y6 y7 y8 y9 y10 y11
    generalize (layZ l).length = nl at *
    go_wp2_with fail
    refine heq.mono ?_
    rintro e v3 ⟨rfl, hv3⟩
    subst v3
    clear heq
    go_upto_region 9 with fail
    have HT : Hid (Two0 w v2) := HG.out.two
    have KS : Hid (∀ X, Two0 w X → X.cell? ⟨w.heap.size + 1, 0, none⟩ = some (.int .i64 0) ∧ X.cell? ⟨w.heap.size + 1, 1, none⟩ = some (.int .i64 0) ∧ X.cell? ⟨w.heap.size + 1, 2, none⟩ = some (.int .i64 0) ∧ X.cell? ⟨w.heap.size + 1, 3, none⟩ = some (.int .i64 0) ∧ X.cell? ⟨w.heap.size + 1, 4, none⟩ = some (.int .i64 0) ∧ X.cell? ⟨w.heap.size + 1, 5, none⟩ = some (.int .i64 0) ∧ X.cell? ⟨w.heap.size + 1, 6, none⟩ = some (.int .i64 0) ∧ X.cell? ⟨w.heap.size + 1, 7, none⟩ = some (.int .i64 0) ∧ X.cell? ⟨w.heap.size + 1, 8, none⟩ = some (.slice none 0 0) ∧ X.cell? ⟨w.heap.size + 1, 9, none⟩ = some (.int .i64 0) ∧ X.cell? ⟨w.heap.size + 1, 10, none⟩ = some (.slice none 0 0) ∧ X.cell? ⟨w.heap.size + 1, 11, none⟩ = some (.slice none 0 0) ∧ X.cell? ⟨2, 0, none⟩ = some (.iface 125 (.pointer (some (p 2)))) ∧ Two0 w X) := fun X h => ⟨h.2.1.cell 0 rfl, h.2.1.cell 1 rfl, h.2.1.cell 2 rfl, h.2.1.cell 3 rfl, h.2.1.cell 4 rfl, h.2.1.cell 5 rfl, h.2.1.cell 6 rfl, h.2.1.cell 7 rfl, h.2.1.cell 8 rfl, h.2.1.cell 9 rfl, h.2.1.cell 10 rfl, h.2.1.cell 11 rfl, (HE.out.below h.2.2 (Nat.le_refl _)).var 2 (by decide), h⟩
    have KA : Hid (Two0 w v2) := HT.out
    have KB : Hid (Two0 w v2.drew) := HT.out.drew
    have KC : Hid (Two0 w ((((((((((((v2.setCell ⟨w.heap.size, 0, none⟩ (.int .i64 0)).setCell ⟨w.heap.size, 1, none⟩ (.int .i64 0)).setCell ⟨w.heap.size, 2, none⟩ (.int .i64 0)).setCell ⟨w.heap.size, 3, none⟩ (.int .i64 0)).setCell ⟨w.heap.size, 4, none⟩ (.int .i64 0)).setCell ⟨w.heap.size, 5, none⟩ (.int .i64 0)).setCell ⟨w.heap.size, 6, none⟩ (.int .i64 0)).setCell ⟨w.heap.size, 7, none⟩ (.int .i64 0)).setCell ⟨w.heap.size, 8, none⟩ (.slice none 0 0)).setCell ⟨w.heap.size, 9, none⟩ (.int .i64 0)).setCell ⟨w.heap.size, 10, none⟩ (.slice none 0 0)).setCell ⟨w.heap.size, 11, none⟩ (.slice none 0 0))) := HT.out.self
    have KD : Hid (Two0 w ((((((((((((v2.setCell ⟨w.heap.size, 0, none⟩ (.int .i64 0)).setCell ⟨w.heap.size, 1, none⟩ (.int .i64 0)).setCell ⟨w.heap.size, 2, none⟩ (.int .i64 0)).setCell ⟨w.heap.size, 3, none⟩ (.int .i64 0)).setCell ⟨w.heap.size, 4, none⟩ (.int .i64 0)).setCell ⟨w.heap.size, 5, none⟩ (.int .i64 0)).setCell ⟨w.heap.size, 6, none⟩ (.int .i64 0)).setCell ⟨w.heap.size, 7, none⟩ (.int .i64 0)).setCell ⟨w.heap.size, 8, none⟩ (.slice none 0 0)).setCell ⟨w.heap.size, 9, none⟩ (.int .i64 0)).setCell ⟨w.heap.size, 10, none⟩ (.slice none 0 0)).setCell ⟨w.heap.size, 11, none⟩ (.slice none 0 0)).drew) := HT.out.self.drew
    have HV : Hid (Var v2 w.heap.size [.int .i64 0, .int .i64 0, .int .i64 0, .int .i64 0, .int .i64 0, .int .i64 0, .int .i64 0, .int .i64 0, .slice none 0 0, .int .i64 0, .slice none 0 0, .slice none 0 0]) := HT.out.1
    have r0 := HV.out.cell 0 rfl
    have q0 := HV.out.frozen 0
    have r1 := HV.out.cell 1 rfl
    have q1 := HV.out.frozen 1
    have r2 := HV.out.cell 2 rfl
    have q2 := HV.out.frozen 2
    have r3 := HV.out.cell 3 rfl
    have q3 := HV.out.frozen 3
    have r4 := HV.out.cell 4 rfl
    have q4 := HV.out.frozen 4
    have r5 := HV.out.cell 5 rfl
    have q5 := HV.out.frozen 5
    have r6 := HV.out.cell 6 rfl
    have q6 := HV.out.frozen 6
    have r7 := HV.out.cell 7 rfl
    have q7 := HV.out.frozen 7
    have r8 := HV.out.cell 8 rfl
    have q8 := HV.out.frozen 8
    have r9 := HV.out.cell 9 rfl
    have q9 := HV.out.frozen 9
    have r10 := HV.out.cell 10 rfl
    have q10 := HV.out.frozen 10
    have r11 := HV.out.cell 11 rfl
    have q11 := HV.out.frozen 11
    go_region_held3 (fun X => X.cell? ⟨w.heap.size + 1, 0, none⟩ = some (.int .i64 0) ∧ X.cell? ⟨w.heap.size + 1, 1, none⟩ = some (.int .i64 0) ∧ X.cell? ⟨w.heap.size + 1, 2, none⟩ = some (.int .i64 0) ∧ X.cell? ⟨w.heap.size + 1, 3, none⟩ = some (.int .i64 0) ∧ X.cell? ⟨w.heap.size + 1, 4, none⟩ = some (.int .i64 0) ∧ X.cell? ⟨w.heap.size + 1, 5, none⟩ = some (.int .i64 0) ∧ X.cell? ⟨w.heap.size + 1, 6, none⟩ = some (.int .i64 0) ∧ X.cell? ⟨w.heap.size + 1, 7, none⟩ = some (.int .i64 0) ∧ X.cell? ⟨w.heap.size + 1, 8, none⟩ = some (.slice none 0 0) ∧ X.cell? ⟨w.heap.size + 1, 9, none⟩ = some (.int .i64 0) ∧ X.cell? ⟨w.heap.size + 1, 10, none⟩ = some (.slice none 0 0) ∧ X.cell? ⟨w.heap.size + 1, 11, none⟩ = some (.slice none 0 0) ∧ X.cell? ⟨2, 0, none⟩ = some (.iface 125 (.pointer (some (p 2)))) ∧ Two0 w X) (with_reducible first | exact KS.out _ KA.out | exact KS.out _ KB.out | exact KS.out _ KC.out | exact KS.out _ KD.out | fail)
      (first | (go_at_call 56; refine (wrap_any _ _ _ _).mono ?_; rintro e w' ⟨rfl, rfl⟩) | fail)
    rename_i hH
    clear hH KS KA KB KC HV r0 r1 r2 r3 r4 r5 r6 r7 r8 r9 r10 r11 q0 q1 q2 q3 q4 q5 q6 q7 q8 q9 q10 q11
    generalize ((((((((((((v2.setCell ⟨w.heap.size, 0, none⟩ (.int .i64 0)).setCell ⟨w.heap.size, 1, none⟩ (.int .i64 0)).setCell ⟨w.heap.size, 2, none⟩ (.int .i64 0)).setCell ⟨w.heap.size, 3, none⟩ (.int .i64 0)).setCell ⟨w.heap.size, 4, none⟩ (.int .i64 0)).setCell ⟨w.heap.size, 5, none⟩ (.int .i64 0)).setCell ⟨w.heap.size, 6, none⟩ (.int .i64 0)).setCell ⟨w.heap.size, 7, none⟩ (.int .i64 0)).setCell ⟨w.heap.size, 8, none⟩ (.slice none 0 0)).setCell ⟨w.heap.size, 9, none⟩ (.int .i64 0)).setCell ⟨w.heap.size, 10, none⟩ (.slice none 0 0)).setCell ⟨w.heap.size, 11, none⟩ (.slice none 0 0)).drew = Z at *
    have c0 := KD.out.1.cell 0 rfl
    have c1 := KD.out.1.cell 1 rfl
    have c2 := KD.out.1.cell 2 rfl
    have c3 := KD.out.1.cell 3 rfl
    have c4 := KD.out.1.cell 4 rfl
    have c5 := KD.out.1.cell 5 rfl
    have c6 := KD.out.1.cell 6 rfl
    have c7 := KD.out.1.cell 7 rfl
    have c8 := KD.out.1.cell 8 rfl
    have c9 := KD.out.1.cell 9 rfl
    have c10 := KD.out.1.cell 10 rfl
    have c11 := KD.out.1.cell 11 rfl
    go_wp2
    refine bodyPost_ret (by simp [results, Tryd.results46, go_sem, c0, c1, c2, c3, c4, c5, c6, c7, c8, c9, c10, c11]; try rfl) rfl ?_
    exact ⟨_, rfl, KD.out.2.2⟩
set_option maxHeartbeats 3200000 in
set_option maxRecDepth 20000 in
theorem read_seal (a : Option Addr) (n cap : Nat) (zs : List Int) (p : Nat → Addr) (w : World) (hn : n = zs.length) (hE : EnvAt w p) (hS : Slice w a cap zs) (hk : firstK zs = 0) (l : LsaZ) (hm : Mid l) (hbody : ∀ ad c W, EnvAt W p → Slice W ad c ((getB zs).drop 20) → Calls Tryd.prog 71 #[.agg (headA (readHZ (getB zs))), .slice ad ((getB zs).drop 20).length c] W (BodyOk W l)) (hr : rightLsaB l = true) (hq : decide (layZ l = getB zs) = true) (hs : ((sealH l).sum == l.head.sum) = false) (hn2 : ((sealH l).len == l.head.len) = true) :
    Calls Tryd.prog 46 #[.slice a n cap] w (ReadBad w p 3) := by
  have HRI : Hid (rightLsaB l = true) := hr
  have HEQ : Hid (decide (layZ l = getB zs) = true) := hq
  have HM2 : Hid (Mid l) := hm
  clear hr hm hq
  have HV : Hid (Var ((w.alloc (.cells #[.int .i64 0, .int .i64 0, .int .i64 0, .int .i64 0, .int .i64 0, .int .i64 0, .int .i64 0, .int .i64 0, .slice none 0 0, .int .i64 0, .slice none 0 0, .slice none 0 0] 28)).alloc (.cells #[.int .i64 0, .int .i64 0, .int .i64 0, .int .i64 0, .int .i64 0, .int .i64 0, .int .i64 0, .int .i64 0, .slice none 0 0, .int .i64 0, .slice none 0 0, .slice none 0 0] 28)) w.heap.size [.int .i64 0, .int .i64 0, .int .i64 0, .int .i64 0, .int .i64 0, .int .i64 0, .int .i64 0, .int .i64 0, .slice none 0 0, .int .i64 0, .slice none 0 0, .slice none 0 0]) := (var_new w [.int .i64 0, .int .i64 0, .int .i64 0, .int .i64 0, .int .i64 0, .int .i64 0, .int .i64 0, .int .i64 0, .slice none 0 0, .int .i64 0, .slice none 0 0, .slice none 0 0] _).alloc _
  have HO : Hid (Var ((w.alloc (.cells #[.int .i64 0, .int .i64 0, .int .i64 0, .int .i64 0, .int .i64 0, .int .i64 0, .int .i64 0, .int .i64 0, .slice none 0 0, .int .i64 0, .slice none 0 0, .slice none 0 0] 28)).alloc (.cells #[.int .i64 0, .int .i64 0, .int .i64 0, .int .i64 0, .int .i64 0, .int .i64 0, .int .i64 0, .int .i64 0, .slice none 0 0, .int .i64 0, .slice none 0 0, .slice none 0 0] 28)) (w.heap.size + 1) [.int .i64 0, .int .i64 0, .int .i64 0, .int .i64 0, .int .i64 0, .int .i64 0, .int .i64 0, .int .i64 0, .slice none 0 0, .int .i64 0, .slice none 0 0, .slice none 0 0]) := by
    have h1 := var_new (w.alloc (.cells #[.int .i64 0, .int .i64 0, .int .i64 0, .int .i64 0, .int .i64 0, .int .i64 0, .int .i64 0, .int .i64 0, .slice none 0 0, .int .i64 0, .slice none 0 0, .slice none 0 0] 28)) [.int .i64 0, .int .i64 0, .int .i64 0, .int .i64 0, .int .i64 0, .int .i64 0, .int .i64 0, .int .i64 0, .slice none 0 0, .int .i64 0, .slice none 0 0, .slice none 0 0] 28
    rw [size_new] at h1; exact h1
  have HB : Hid (Below w.heap.size w ((w.alloc (.cells #[.int .i64 0, .int .i64 0, .int .i64 0, .int .i64 0, .int .i64 0, .int .i64 0, .int .i64 0, .int .i64 0, .slice none 0 0, .int .i64 0, .slice none 0 0, .slice none 0 0] 28)).alloc (.cells #[.int .i64 0, .int .i64 0, .int .i64 0, .int .i64 0, .int .i64 0, .int .i64 0, .int .i64 0, .int .i64 0, .slice none 0 0, .int .i64 0, .slice none 0 0, .slice none 0 0] 28))) := (below_new' _ _).alloc (by simp) _
  have HE : Hid (EnvAt w p) := hE
  have HS : Hid (Slice w a cap zs) := hS
  have hfirst := fun W (hb : Below w.heap.size w W) => first_any a n cap zs p W hn (hE.below hb (Nat.le_refl _)) (hS.below hb)
  unfold FirstEnd at hfirst
  rw [hk] at hfirst
  clear hE hS hn
  go_enter Tryd.func46, Tryd.ntmps46
  go_upto_region 2 with fail
  generalize ((w.alloc (.cells #[.int .i64 0, .int .i64 0, .int .i64 0, .int .i64 0, .int .i64 0, .int .i64 0, .int .i64 0, .int .i64 0, .slice none 0 0, .int .i64 0, .slice none 0 0, .slice none 0 0] 28)).alloc (.cells #[.int .i64 0, .int .i64 0, .int .i64 0, .int .i64 0, .int .i64 0, .int .i64 0, .int .i64 0, .int .i64 0, .slice none 0 0, .int .i64 0, .slice none 0 0, .slice none 0 0] 28)) = W at *
  go_wp2_with fail
  refine (hfirst _ HB.out).mono ?_
  rintro e w3 ⟨hb, rfl⟩
  replace HV : Hid (Var w3 w.heap.size [.int .i64 0, .int .i64 0, .int .i64 0, .int .i64 0, .int .i64 0, .int .i64 0, .int .i64 0, .int .i64 0, .slice none 0 0, .int .i64 0, .slice none 0 0, .slice none 0 0]) := HV.out.below hb HV.out.lt
  replace HO : Hid (Var w3 (w.heap.size + 1) [.int .i64 0, .int .i64 0, .int .i64 0, .int .i64 0, .int .i64 0, .int .i64 0, .int .i64 0, .int .i64 0, .slice none 0 0, .int .i64 0, .slice none 0 0, .slice none 0 0]) := HO.out.below hb HO.out.lt
  replace HB : Hid (Below w.heap.size w w3) := below_more HB.out hb HB.out.size
  clear hb hfirst
  have hlen := getB_length hk
  have hz := firstK_zero hk
  have hroom := HS.out.room
  generalize hmm : (lenAt zs).toNat = m at *
  have HM : Hid ((getB zs).length = m) := hlen
  have hm20 : 20 ≤ m := by omega
  have hmc : m ≤ cap := by omega
  have HSB : Hid (Slice w a cap (getB zs)) := slice_take HS.out _
  clear hmm hz hlen hroom hk HS
  obtain ⟨b, off, rfl, _⟩ := slice_some HSB.out (by rw [HM.out]; omega)
  obtain ⟨ad, had, hsl⟩ := slice_ad HSB.out (m := 20) (by rw [HM.out]; omega)
  have HSL : Hid (Slice w ad (cap - 20) ((getB zs).drop 20)) := hsl
  have FR : ∀ X, (Two0 w X) → Calls Tryd.prog 51 #[.slice (some ⟨b, off, none⟩) m cap] X fun e w' => e = .returned (.agg (headA (readHZ (getB zs)))) ∧ (Two0 w w') ∧ Below X.heap.size X w' := by
    intro X hX
    obtain ⟨b', off', e, hcell⟩ := slice_some (HSB.out.below hX.2.2) (by rw [HM.out]; omega)
    cases e
    have hl := HSB.out.len
    refine (readHead_any b off m cap (getB zs) X (fun i hi => hcell i (by rw [HM.out]; exact hi)) HSB.out.bd hm20 (by rw [HM.out] at hl; omega) hmc).mono ?_
    rintro e w' ⟨rfl, hb⟩
    exact ⟨rfl, hX.below hb, hb⟩
  have hbl : ((getB zs).drop 20).length = m - 20 := by rw [List.length_drop, HM.out]
  have FB : ∀ X, (Two0 w X) → Calls Tryd.prog 71 #[.agg (headA (readHZ (getB zs))), .slice ad (m - 20) (cap - 20)] X fun e w' => ∃ s1, e = .returned (.tuple #[.agg (lsaA s1 l), .nilIface]) ∧ Held w' s1 l ∧ Nils s1 ∧ FarS X.heap.size s1 ∧ (Two0 w w') ∧ Below X.heap.size X w' := by
    intro X hX
    have hc := hbody ad (cap - 20) X (HE.out.below hX.2.2 (Nat.le_refl _)) (HSL.out.below hX.2.2)
    rw [hbl] at hc
    refine hc.mono ?_
    rintro e w' ⟨s1, rfl, hh, hn, hf, hb⟩
    exact ⟨s1, rfl, hh, hn, hf, hX.below hb, hb⟩
  have KW3 : Hid (Two0 w w3) := ⟨HV.out, HO.out, HB.out⟩
  have KD3 : Hid (Two0 w w3.drew) := ⟨HV.out.drew, HO.out.drew, HB.out.drew⟩
  clear hbl hbody hsl
  generalize readHZ (getB zs) = h at *
  have i20 : (20 : Int) ≤ (m : Int) := by omega
  have imc : (m : Int) ≤ (cap : Int) := by omega
  have ic2 : (20 : Int) ≤ (cap : Int) := by omega
  go_upto_region 5 with fail
  go_cut [5, 6] from 16 (fun ev v wx => ∃ s1 g6, ev = .nilIface ∧ v = .pointer (some ⟨g6, 0, none⟩) ∧ GotL w l g6 s1 wx)
  case first =>
    go_region_held3 (fun X => (Two0 w X)) (with_reducible first | exact KW3.out | exact KD3.out | exact hk4 | exact hk5 | exact hk5.put hk4.room _ _ _ _ _ _ _ _ _ _ _ _ | exact hk5.put KW3.out.room _ _ _ _ _ _ _ _ _ _ _ _ | exact (hk5.alloc _).put hk5.room _ _ _ _ _ _ _ _ _ _ _ _ | (repeat (first | refine Two0.drew ?_ | refine Two0.alloc ?_ _)) <;> first | exact KW3.out | exact hk4 | exact hk5 | fail)
      (first | (go_at_call 51; refine (FR _ (by assumption)).mono ?_; rintro e w4 ⟨rfl, hk4, hb4⟩; have hcl4 := fun (p : Addr) (h : p.block < _) => hb4.cell (p := p) h; have hfr4 := fun (p : Addr) (h : p.block < _) => hb4.frozen (p := p) h; have hsz4 := fun (i : Nat) (h : i < _) => Nat.lt_of_lt_of_le h hb4.size) | (go_at_call 71; refine (FB _ (by assumption)).mono ?_; rintro e w5 ⟨s1, rfl, hh, hn, hf, hk5, hb5⟩; have hcl5 := fun (p : Addr) (h : p.block < _) => hb5.cell (p := p) h; have hfr5 := fun (p : Addr) (h : p.block < _) => hb5.frozen (p := p) h) | fail)
    all_goals go_wp2
    all_goals go_meet
    · exact ⟨s1, _, rfl, rfl, gotL_new hk5 hh hn (hf.mono hk4.room)⟩
    · exact ⟨s1, _, rfl, rfl, gotL_put hk5 hh hn hf (by simp) ((var_new w4 [.int .i64 0, .int .i64 0, .int .i64 0, .int .i64 0, .int .i64 0, .int .i64 0, .int .i64 0, .int .i64 0, .slice none 0 0, .int .i64 0, .slice none 0 0, .slice none 0 0] _).below hb5 (by simp)) hk4.room⟩
    · exact ⟨s1, _, rfl, rfl, gotL_put hk5 hh hn hf (hsz4 _ (by simp)) (((var_new w3 [.int .i64 0, .int .i64 0, .int .i64 0, .int .i64 0, .int .i64 0, .int .i64 0, .int .i64 0, .int .i64 0, .slice none 0 0, .int .i64 0, .slice none 0 0, .slice none 0 0] _).drew.below hb4 (by simp)).below hb5 (hsz4 _ (by simp))) KW3.out.room⟩
  case rest =>
    obtain ⟨s1, g6, rfl, rfl, hG⟩ := hcut
    have HG : Hid (GotL w l g6 s1 wc) := hG
    clear hG KW3 KD3 FR FB HV HO HB
    have y0 := HG.out.var.cell 0 rfl
    have y1 := HG.out.var.cell 1 rfl
    have y2 := HG.out.var.cell 2 rfl
    have y3 := HG.out.var.cell 3 rfl
    have y4 := HG.out.var.cell 4 rfl
    have y5 := HG.out.var.cell 5 rfl
    have y6 := HG.out.var.cell 6 rfl
    have y7 := HG.out.var.cell 7 rfl
    have y8 := HG.out.var.cell 8 rfl
    have y9 := HG.out.var.cell 9 rfl
    have y10 := HG.out.var.cell 10 rfl
    have y11 := HG.out.var.cell 11 rfl
    go_wp2_with fail
    refine (rightLsa_any s1 l wc HG.out.held HM2.out.fits).mono ?_
    rintro e v1 ⟨rfl, hb⟩
    rw [HRI.out]
    replace HG : Hid (GotL w l g6 s1 v1) := HG.out.below hb
    clear hb y0 y1 y2 y3 y4 y5 y6 y7 y8 y9 y10 y11
    have y0 := HG.out.var.cell 0 rfl
    have y1 := HG.out.var.cell 1 rfl
    have y2 := HG.out.var.cell 2 rfl
    have y3 := HG.out.var.cell 3 rfl
    have y4 := HG.out.var.cell 4 rfl
    have y5 := HG.out.var.cell 5 rfl
    have y6 := HG.out.var.cell 6 rfl
    have y7 := HG.out.var.cell 7 rfl
    have y8 := HG.out.var.cell 8 rfl
    have y9 := HG.out.var.cell 9 rfl
    have y10 := HG.out.var.cell 10 rfl
    have y11 := HG.out.var.cell 11 rfl
    go_wp2_with fail
    refine (lay_any s1 l v1 HG.out.held HM2.out).mono ?_
    rintro e v2 ⟨gl, cl, rfl, ho, hb⟩
    have heq := equal_any (some ⟨gl, 0, none⟩) (some ⟨b, off, none⟩) (layZ l).length m cl cap (layZ l) (getB zs) v2 rfl HM.out.symm ho.bts (HSB.out.bts.below (below_more HG.out.two.2.2 hb HG.out.two.2.2.size)) (layZ_bd _) HSB.out.bd
    rw [HEQ.out] at heq
    replace HG : Hid (GotL w l g6 s1 v2) := HG.out.below hb
    clear hb ho y0 y1 y2 y3 y4 y5 y6 y7 y8 y9 y10 y11
    generalize (layZ l).length = nl at *
    go_wp2_with fail
    refine heq.mono ?_
    rintro e v3 ⟨rfl, hv3⟩
    subst v3
    clear heq
    have hsl : ∀ W, GotL w l g6 s1 W → Calls Tryd.prog 34 #[.agg (lsaA s1 l)] W fun e w' => e = .returned (.agg (headA (sealH l))) ∧ GotL w l g6 s1 w' := fun W h => (sealed_any s1 l W h.held HM2.out).mono fun e w' ⟨he, hb⟩ => ⟨he, h.below hb⟩
    rw [seal_shape] at hsl
    generalize (sealH l).sum = S at *
    generalize (sealH l).len = N at *
    go_upto_region 10 with fail
    have KS : Hid (∀ X, GotL w l g6 s1 X → X.cell? ⟨g6, 0, none⟩ = some (.int .i64 l.head.age) ∧ X.cell? ⟨g6, 1, none⟩ = some (.int .i64 l.head.kind) ∧ X.cell? ⟨g6, 2, none⟩ = some (.int .i64 l.head.id) ∧ X.cell? ⟨g6, 3, none⟩ = some (.int .i64 l.head.adv) ∧ X.cell? ⟨g6, 4, none⟩ = some (.int .i64 l.head.seq) ∧ X.cell? ⟨g6, 5, none⟩ = some (.int .i64 l.head.sum) ∧ X.cell? ⟨g6, 6, none⟩ = some (.int .i64 l.head.len) ∧ X.cell? ⟨g6, 7, none⟩ = some (.int .i64 l.flags) ∧ X.cell? ⟨g6, 8, none⟩ = some (.slice s1.la l.links.length s1.lc) ∧ X.cell? ⟨g6, 9, none⟩ = some (.int .i64 l.bits) ∧ X.cell? ⟨g6, 10, none⟩ = some (.slice s1.ra l.routers.length s1.rc) ∧ X.cell? ⟨g6, 11, none⟩ = some (.slice s1.va l.verts.length s1.vc) ∧ GotL w l g6 s1 X) := fun X h => ⟨h.var.cell 0 rfl, h.var.cell 1 rfl, h.var.cell 2 rfl, h.var.cell 3 rfl, h.var.cell 4 rfl, h.var.cell 5 rfl, h.var.cell 6 rfl, h.var.cell 7 rfl, h.var.cell 8 rfl, h.var.cell 9 rfl, h.var.cell 10 rfl, h.var.cell 11 rfl, h⟩
    have KB : Hid (GotL w l g6 s1 v2.drew) := HG.out.drew
    go_region_held3 (fun X => X.cell? ⟨g6, 0, none⟩ = some (.int .i64 l.head.age) ∧ X.cell? ⟨g6, 1, none⟩ = some (.int .i64 l.head.kind) ∧ X.cell? ⟨g6, 2, none⟩ = some (.int .i64 l.head.id) ∧ X.cell? ⟨g6, 3, none⟩ = some (.int .i64 l.head.adv) ∧ X.cell? ⟨g6, 4, none⟩ = some (.int .i64 l.head.seq) ∧ X.cell? ⟨g6, 5, none⟩ = some (.int .i64 l.head.sum) ∧ X.cell? ⟨g6, 6, none⟩ = some (.int .i64 l.head.len) ∧ X.cell? ⟨g6, 7, none⟩ = some (.int .i64 l.flags) ∧ X.cell? ⟨g6, 8, none⟩ = some (.slice s1.la l.links.length s1.lc) ∧ X.cell? ⟨g6, 9, none⟩ = some (.int .i64 l.bits) ∧ X.cell? ⟨g6, 10, none⟩ = some (.slice s1.ra l.routers.length s1.rc) ∧ X.cell? ⟨g6, 11, none⟩ = some (.slice s1.va l.verts.length s1.vc) ∧ GotL w l g6 s1 X) (with_reducible first | exact KS.out _ HG.out | exact KS.out _ KB.out | exact KS.out _ hk | fail)
      (first | (go_at_call 34; refine (hsl _ KB.out).mono ?_; rintro e v4 ⟨rfl, hk⟩) | fail)
    rename_i hH
    have HG4 : Hid (GotL w l g6 s1 v4) := hk
    clear hH hk hsl KS KB HG
    go_upto_region 11 with fail
    have HT : Hid (Two0 w v4) := HG4.out.two
    have KS : Hid (∀ X, Two0 w X → X.cell? ⟨w.heap.size + 1, 0, none⟩ = some (.int .i64 0) ∧ X.cell? ⟨w.heap.size + 1, 1, none⟩ = some (.int .i64 0) ∧ X.cell? ⟨w.heap.size + 1, 2, none⟩ = some (.int .i64 0) ∧ X.cell? ⟨w.heap.size + 1, 3, none⟩ = some (.int .i64 0) ∧ X.cell? ⟨w.heap.size + 1, 4, none⟩ = some (.int .i64 0) ∧ X.cell? ⟨w.heap.size + 1, 5, none⟩ = some (.int .i64 0) ∧ X.cell? ⟨w.heap.size + 1, 6, none⟩ = some (.int .i64 0) ∧ X.cell? ⟨w.heap.size + 1, 7, none⟩ = some (.int .i64 0) ∧ X.cell? ⟨w.heap.size + 1, 8, none⟩ = some (.slice none 0 0) ∧ X.cell? ⟨w.heap.size + 1, 9, none⟩ = some (.int .i64 0) ∧ X.cell? ⟨w.heap.size + 1, 10, none⟩ = some (.slice none 0 0) ∧ X.cell? ⟨w.heap.size + 1, 11, none⟩ = some (.slice none 0 0) ∧ X.cell? ⟨3, 0, none⟩ = some (.iface 125 (.pointer (some (p 3)))) ∧ Two0 w X) := fun X h => ⟨h.2.1.cell 0 rfl, h.2.1.cell 1 rfl, h.2.1.cell 2 rfl, h.2.1.cell 3 rfl, h.2.1.cell 4 rfl, h.2.1.cell 5 rfl, h.2.1.cell 6 rfl, h.2.1.cell 7 rfl, h.2.1.cell 8 rfl, h.2.1.cell 9 rfl, h.2.1.cell 10 rfl, h.2.1.cell 11 rfl, (HE.out.below h.2.2 (Nat.le_refl _)).var 3 (by decide), h⟩
    have KA : Hid (Two0 w v4) := HT.out
    have KB : Hid (Two0 w v4.drew) := HT.out.drew
    have KC : Hid (Two0 w ((((((((((((v4.setCell ⟨w.heap.size, 0, none⟩ (.int .i64 0)).setCell ⟨w.heap.size, 1, none⟩ (.int .i64 0)).setCell ⟨w.heap.size, 2, none⟩ (.int .i64 0)).setCell ⟨w.heap.size, 3, none⟩ (.int .i64 0)).setCell ⟨w.heap.size, 4, none⟩ (.int .i64 0)).setCell ⟨w.heap.size, 5, none⟩ (.int .i64 0)).setCell ⟨w.heap.size, 6, none⟩ (.int .i64 0)).setCell ⟨w.heap.size, 7, none⟩ (.int .i64 0)).setCell ⟨w.heap.size, 8, none⟩ (.slice none 0 0)).setCell ⟨w.heap.size, 9, none⟩ (.int .i64 0)).setCell ⟨w.heap.size, 10, none⟩ (.slice none 0 0)).setCell ⟨w.heap.size, 11, none⟩ (.slice none 0 0))) := HT.out.self
    have KD : Hid (Two0 w ((((((((((((v4.setCell ⟨w.heap.size, 0, none⟩ (.int .i64 0)).setCell ⟨w.heap.size, 1, none⟩ (.int .i64 0)).setCell ⟨w.heap.size, 2, none⟩ (.int .i64 0)).setCell ⟨w.heap.size, 3, none⟩ (.int .i64 0)).setCell ⟨w.heap.size, 4, none⟩ (.int .i64 0)).setCell ⟨w.heap.size, 5, none⟩ (.int .i64 0)).setCell ⟨w.heap.size, 6, none⟩ (.int .i64 0)).setCell ⟨w.heap.size, 7, none⟩ (.int .i64 0)).setCell ⟨w.heap.size, 8, none⟩ (.slice none 0 0)).setCell ⟨w.heap.size, 9, none⟩ (.int .i64 0)).setCell ⟨w.heap.size, 10, none⟩ (.slice none 0 0)).setCell ⟨w.heap.size, 11, none⟩ (.slice none 0 0)).drew) := HT.out.self.drew
    have HV : Hid (Var v4 w.heap.size [.int .i64 0, .int .i64 0, .int .i64 0, .int .i64 0, .int .i64 0, .int .i64 0, .int .i64 0, .int .i64 0, .slice none 0 0, .int .i64 0, .slice none 0 0, .slice none 0 0]) := HT.out.1
    have r0 := HV.out.cell 0 rfl
    have q0 := HV.out.frozen 0
    have r1 := HV.out.cell 1 rfl
    have q1 := HV.out.frozen 1
    have r2 := HV.out.cell 2 rfl
    have q2 := HV.out.frozen 2
    have r3 := HV.out.cell 3 rfl
    have q3 := HV.out.frozen 3
    have r4 := HV.out.cell 4 rfl
    have q4 := HV.out.frozen 4
    have r5 := HV.out.cell 5 rfl
    have q5 := HV.out.frozen 5
    have r6 := HV.out.cell 6 rfl
    have q6 := HV.out.frozen 6
    have r7 := HV.out.cell 7 rfl
    have q7 := HV.out.frozen 7
    have r8 := HV.out.cell 8 rfl
    have q8 := HV.out.frozen 8
    have r9 := HV.out.cell 9 rfl
    have q9 := HV.out.frozen 9
    have r10 := HV.out.cell 10 rfl
    have q10 := HV.out.frozen 10
    have r11 := HV.out.cell 11 rfl
    have q11 := HV.out.frozen 11
    go_region_held3 (fun X => X.cell? ⟨w.heap.size + 1, 0, none⟩ = some (.int .i64 0) ∧ X.cell? ⟨w.heap.size + 1, 1, none⟩ = some (.int .i64 0) ∧ X.cell? ⟨w.heap.size + 1, 2, none⟩ = some (.int .i64 0) ∧ X.cell? ⟨w.heap.size + 1, 3, none⟩ = some (.int .i64 0) ∧ X.cell? ⟨w.heap.size + 1, 4, none⟩ = some (.int .i64 0) ∧ X.cell? ⟨w.heap.size + 1, 5, none⟩ = some (.int .i64 0) ∧ X.cell? ⟨w.heap.size + 1, 6, none⟩ = some (.int .i64 0) ∧ X.cell? ⟨w.heap.size + 1, 7, none⟩ = some (.int .i64 0) ∧ X.cell? ⟨w.heap.size + 1, 8, none⟩ = some (.slice none 0 0) ∧ X.cell? ⟨w.heap.size + 1, 9, none⟩ = some (.int .i64 0) ∧ X.cell? ⟨w.heap.size + 1, 10, none⟩ = some (.slice none 0 0) ∧ X.cell? ⟨w.heap.size + 1, 11, none⟩ = some (.slice none 0 0) ∧ X.cell? ⟨3, 0, none⟩ = some (.iface 125 (.pointer (some (p 3)))) ∧ Two0 w X) (with_reducible first | exact KS.out _ KA.out | exact KS.out _ KB.out | exact KS.out _ KC.out | exact KS.out _ KD.out | fail)
      (first | (go_at_call 56; refine (wrap_any _ _ _ _).mono ?_; rintro e w' ⟨rfl, rfl⟩) | fail)
    rename_i hH
    clear hH KS KA KB KC HV r0 r1 r2 r3 r4 r5 r6 r7 r8 r9 r10 r11 q0 q1 q2 q3 q4 q5 q6 q7 q8 q9 q10 q11
    generalize ((((((((((((v4.setCell ⟨w.heap.size, 0, none⟩ (.int .i64 0)).setCell ⟨w.heap.size, 1, none⟩ (.int .i64 0)).setCell ⟨w.heap.size, 2, none⟩ (.int .i64 0)).setCell ⟨w.heap.size, 3, none⟩ (.int .i64 0)).setCell ⟨w.heap.size, 4, none⟩ (.int .i64 0)).setCell ⟨w.heap.size, 5, none⟩ (.int .i64 0)).setCell ⟨w.heap.size, 6, none⟩ (.int .i64 0)).setCell ⟨w.heap.size, 7, none⟩ (.int .i64 0)).setCell ⟨w.heap.size, 8, none⟩ (.slice none 0 0)).setCell ⟨w.heap.size, 9, none⟩ (.int .i64 0)).setCell ⟨w.heap.size, 10, none⟩ (.slice none 0 0)).setCell ⟨w.heap.size, 11, none⟩ (.slice none 0 0)).drew = Z at *
    have c0 := KD.out.1.cell 0 rfl
    have c1 := KD.out.1.cell 1 rfl
    have c2 := KD.out.1.cell 2 rfl
    have c3 := KD.out.1.cell 3 rfl
    have c4 := KD.out.1.cell 4 rfl
    have c5 := KD.out.1.cell 5 rfl
    have c6 := KD.out.1.cell 6 rfl
    have c7 := KD.out.1.cell 7 rfl
    have c8 := KD.out.1.cell 8 rfl
    have c9 := KD.out.1.cell 9 rfl
    have c10 := KD.out.1.cell 10 rfl
    have c11 := KD.out.1.cell 11 rfl
    go_wp2
    refine bodyPost_ret (by simp [results, Tryd.results46, go_sem, c0, c1, c2, c3, c4, c5, c6, c7, c8, c9, c10, c11]; try rfl) rfl ?_
    exact ⟨_, rfl, KD.out.2.2⟩
set_option maxHeartbeats 3200000 in
set_option maxRecDepth 20000 in
theorem read_good (a : Option Addr) (n cap : Nat) (zs : List Int) (p : Nat → Addr) (w : World) (hn : n = zs.length) (hE : EnvAt w p) (hS : Slice w a cap zs) (hk : firstK zs = 0) (l : LsaZ) (hm : Mid l) (hbody : ∀ ad c W, EnvAt W p → Slice W ad c ((getB zs).drop 20) → Calls Tryd.prog 71 #[.agg (headA (readHZ (getB zs))), .slice ad ((getB zs).drop 20).length c] W (BodyOk W l)) (hr : rightLsaB l = true) (hq : decide (layZ l = getB zs) = true) (hs : ((sealH l).sum == l.head.sum) = true) (hn2 : ((sealH l).len == l.head.len) = true) :
    Calls Tryd.prog 46 #[.slice a n cap] w (BodyOk w l) := by
  have HRI : Hid (rightLsaB l = true) := hr
  have HEQ : Hid (decide (layZ l = getB zs) = true) := hq
  have HM2 : Hid (Mid l) := hm
  clear hr hm hq
  have HV : Hid (Var ((w.alloc (.cells #[.int .i64 0, .int .i64 0, .int .i64 0, .int .i64 0, .int .i64 0, .int .i64 0, .int .i64 0, .int .i64 0, .slice none 0 0, .int .i64 0, .slice none 0 0, .slice none 0 0] 28)).alloc (.cells #[.int .i64 0, .int .i64 0, .int .i64 0, .int .i64 0, .int .i64 0, .int .i64 0, .int .i64 0, .int .i64 0, .slice none 0 0, .int .i64 0, .slice none 0 0, .slice none 0 0] 28)) w.heap.size [.int .i64 0, .int .i64 0, .int .i64 0, .int .i64 0, .int .i64 0, .int .i64 0, .int .i64 0, .int .i64 0, .slice none 0 0, .int .i64 0, .slice none 0 0, .slice none 0 0]) := (var_new w [.int .i64 0, .int .i64 0, .int .i64 0, .int .i64 0, .int .i64 0, .int .i64 0, .int .i64 0, .int .i64 0, .slice none 0 0, .int .i64 0, .slice none 0 0, .slice none 0 0] _).alloc _
  have HO : Hid (Var ((w.alloc (.cells #[.int .i64 0, .int .i64 0, .int .i64 0, .int .i64 0, .int .i64 0, .int .i64 0, .int .i64 0, .int .i64 0, .slice none 0 0, .int .i64 0, .slice none 0 0, .slice none 0 0] 28)).alloc (.cells #[.int .i64 0, .int .i64 0, .int .i64 0, .int .i64 0, .int .i64 0, .int .i64 0, .int .i64 0, .int .i64 0, .slice none 0 0, .int .i64 0, .slice none 0 0, .slice none 0 0] 28)) (w.heap.size + 1) [.int .i64 0, .int .i64 0, .int .i64 0, .int .i64 0, .int .i64 0, .int .i64 0, .int .i64 0, .int .i64 0, .slice none 0 0, .int .i64 0, .slice none 0 0, .slice none 0 0]) := by
    have h1 := var_new (w.alloc (.cells #[.int .i64 0, .int .i64 0, .int .i64 0, .int .i64 0, .int .i64 0, .int .i64 0, .int .i64 0, .int .i64 0, .slice none 0 0, .int .i64 0, .slice none 0 0, .slice none 0 0] 28)) [.int .i64 0, .int .i64 0, .int .i64 0, .int .i64 0, .int .i64 0, .int .i64 0, .int .i64 0, .int .i64 0, .slice none 0 0, .int .i64 0, .slice none 0 0, .slice none 0 0] 28
    rw [size_new] at h1; exact h1
  have HB : Hid (Below w.heap.size w ((w.alloc (.cells #[.int .i64 0, .int .i64 0, .int .i64 0, .int .i64 0, .int .i64 0, .int .i64 0, .int .i64 0, .int .i64 0, .slice none 0 0, .int .i64 0, .slice none 0 0, .slice none 0 0] 28)).alloc (.cells #[.int .i64 0, .int .i64 0, .int .i64 0, .int .i64 0, .int .i64 0, .int .i64 0, .int .i64 0, .int .i64 0, .slice none 0 0, .int .i64 0, .slice none 0 0, .slice none 0 0] 28))) := (below_new' _ _).alloc (by simp) _
  have HE : Hid (EnvAt w p) := hE
  have HS : Hid (Slice w a cap zs) := hS
  have hfirst := fun W (hb : Below w.heap.size w W) => first_any a n cap zs p W hn (hE.below hb (Nat.le_refl _)) (hS.below hb)
  unfold FirstEnd at hfirst
  rw [hk] at hfirst
  clear hE hS hn
  go_enter Tryd.func46, Tryd.ntmps46
  go_upto_region 2 with fail
  generalize ((w.alloc (.cells #[.int .i64 0, .int .i64 0, .int .i64 0, .int .i64 0, .int .i64 0, .int .i64 0, .int .i64 0, .int .i64 0, .slice none 0 0, .int .i64 0, .slice none 0 0, .slice none 0 0] 28)).alloc (.cells #[.int .i64 0, .int .i64 0, .int .i64 0, .int .i64 0, .int .i64 0, .int .i64 0, .int .i64 0, .int .i64 0, .slice none 0 0, .int .i64 0, .slice none 0 0, .slice none 0 0] 28)) = W at *
  go_wp2_with fail
  refine (hfirst _ HB.out).mono ?_
  rintro e w3 ⟨hb, rfl⟩
  replace HV : Hid (Var w3 w.heap.size [.int .i64 0, .int .i64 0, .int .i64 0, .int .i64 0, .int .i64 0, .int .i64 0, .int .i64 0, .int .i64 0, .slice none 0 0, .int .i64 0, .slice none 0 0, .slice none 0 0]) := HV.out.below hb HV.out.lt
  replace HO : Hid (Var w3 (w.heap.size + 1) [.int .i64 0, .int .i64 0, .int .i64 0, .int .i64 0, .int .i64 0, .int .i64 0, .int .i64 0, .int .i64 0, .slice none 0 0, .int .i64 0, .slice none 0 0, .slice none 0 0]) := HO.out.below hb HO.out.lt
  replace HB : Hid (Below w.heap.size w w3) := below_more HB.out hb HB.out.size
  clear hb hfirst
  have hlen := getB_length hk
  have hz := firstK_zero hk
  have hroom := HS.out.room
  generalize hmm : (lenAt zs).toNat = m at *
  have HM : Hid ((getB zs).length = m) := hlen
  have hm20 : 20 ≤ m := by omega
  have hmc : m ≤ cap := by omega
  have HSB : Hid (Slice w a cap (getB zs)) := slice_take HS.out _
  clear hmm hz hlen hroom hk HS
  obtain ⟨b, off, rfl, _⟩ := slice_some HSB.out (by rw [HM.out]; omega)
  obtain ⟨ad, had, hsl⟩ := slice_ad HSB.out (m := 20) (by rw [HM.out]; omega)
  have HSL : Hid (Slice w ad (cap - 20) ((getB zs).drop 20)) := hsl
  have FR : ∀ X, (Two0 w X) → Calls Tryd.prog 51 #[.slice (some ⟨b, off, none⟩) m cap] X fun e w' => e = .returned (.agg (headA (readHZ (getB zs)))) ∧ (Two0 w w') ∧ Below X.heap.size X w' := by
    intro X hX
    obtain ⟨b', off', e, hcell⟩ := slice_some (HSB.out.below hX.2.2) (by rw [HM.out]; omega)
    cases e
    have hl := HSB.out.len
    refine (readHead_any b off m cap (getB zs) X (fun i hi => hcell i (by rw [HM.out]; exact hi)) HSB.out.bd hm20 (by rw [HM.out] at hl; omega) hmc).mono ?_
    rintro e w' ⟨rfl, hb⟩
    exact ⟨rfl, hX.below hb, hb⟩
  have hbl : ((getB zs).drop 20).length = m - 20 := by rw [List.length_drop, HM.out]
  have FB : ∀ X, (Two0 w X) → Calls Tryd.prog 71 #[.agg (headA (readHZ (getB zs))), .slice ad (m - 20) (cap - 20)] X fun e w' => ∃ s1, e = .returned (.tuple #[.agg (lsaA s1 l), .nilIface]) ∧ Held w' s1 l ∧ Nils s1 ∧ FarS X.heap.size s1 ∧ (Two0 w w') ∧ Below X.heap.size X w' := by
    intro X hX
    have hc := hbody ad (cap - 20) X (HE.out.below hX.2.2 (Nat.le_refl _)) (HSL.out.below hX.2.2)
    rw [hbl] at hc
    refine hc.mono ?_
    rintro e w' ⟨s1, rfl, hh, hn, hf, hb⟩
    exact ⟨s1, rfl, hh, hn, hf, hX.below hb, hb⟩
  have KW3 : Hid (Two0 w w3) := ⟨HV.out, HO.out, HB.out⟩
  have KD3 : Hid (Two0 w w3.drew) := ⟨HV.out.drew, HO.out.drew, HB.out.drew⟩
  clear hbl hbody hsl
  generalize readHZ (getB zs) = h at *
  have i20 : (20 : Int) ≤ (m : Int) := by omega
  have imc : (m : Int) ≤ (cap : Int) := by omega
  have ic2 : (20 : Int) ≤ (cap : Int) := by omega
  go_upto_region 5 with fail
  go_cut [5, 6] from 16 (fun ev v wx => ∃ s1 g6, ev = .nilIface ∧ v = .pointer (some ⟨g6, 0, none⟩) ∧ GotL w l g6 s1 wx)
  case first =>
    go_region_held3 (fun X => (Two0 w X)) (with_reducible first | exact KW3.out | exact KD3.out | exact hk4 | exact hk5 | exact hk5.put hk4.room _ _ _ _ _ _ _ _ _ _ _ _ | exact hk5.put KW3.out.room _ _ _ _ _ _ _ _ _ _ _ _ | exact (hk5.alloc _).put hk5.room _ _ _ _ _ _ _ _ _ _ _ _ | (repeat (first | refine Two0.drew ?_ | refine Two0.alloc ?_ _)) <;> first | exact KW3.out | exact hk4 | exact hk5 | fail)
      (first | (go_at_call 51; refine (FR _ (by assumption)).mono ?_; rintro e w4 ⟨rfl, hk4, hb4⟩; have hcl4 := fun (p : Addr) (h : p.block < _) => hb4.cell (p := p) h; have hfr4 := fun (p : Addr) (h : p.block < _) => hb4.frozen (p := p) h; have hsz4 := fun (i : Nat) (h : i < _) => Nat.lt_of_lt_of_le h hb4.size) | (go_at_call 71; refine (FB _ (by assumption)).mono ?_; rintro e w5 ⟨s1, rfl, hh, hn, hf, hk5, hb5⟩; have hcl5 := fun (p : Addr) (h : p.block < _) => hb5.cell (p := p) h; have hfr5 := fun (p : Addr) (h : p.block < _) => hb5.frozen (p := p) h) | fail)
    all_goals go_wp2
    all_goals go_meet
    · exact ⟨s1, _, rfl, rfl, gotL_new hk5 hh hn (hf.mono hk4.room)⟩
    · exact ⟨s1, _, rfl, rfl, gotL_put hk5 hh hn hf (by simp) ((var_new w4 [.int .i64 0, .int .i64 0, .int .i64 0, .int .i64 0, .int .i64 0, .int .i64 0, .int .i64 0, .int .i64 0, .slice none 0 0, .int .i64 0, .slice none 0 0, .slice none 0 0] _).below hb5 (by simp)) hk4.room⟩
    · exact ⟨s1, _, rfl, rfl, gotL_put hk5 hh hn hf (hsz4 _ (by simp)) (((var_new w3 [.int .i64 0, .int .i64 0, .int .i64 0, .int .i64 0, .int .i64 0, .int .i64 0, .int .i64 0, .int .i64 0, .slice none 0 0, .int .i64 0, .slice none 0 0, .slice none 0 0] _).drew.below hb4 (by simp)).below hb5 (hsz4 _ (by simp))) KW3.out.room⟩
  case rest =>
    obtain ⟨s1, g6, rfl, rfl, hG⟩ := hcut
    have HG : Hid (GotL w l g6 s1 wc) := hG
    clear hG KW3 KD3 FR FB HV HO HB
    have y0 := HG.out.var.cell 0 rfl
    have y1 := HG.out.var.cell 1 rfl
    have y2 := HG.out.var.cell 2 rfl
    have y3 := HG.out.var.cell 3 rfl
    have y4 := HG.out.var.cell 4 rfl
    have y5 := HG.out.var.cell 5 rfl
    have y6 := HG.out.var.cell 6 rfl
    have y7 := HG.out.var.cell 7 rfl
    have y8 := HG.out.var.cell 8 rfl
    have y9 := HG.out.var.cell 9 rfl
    have y10 := HG.out.var.cell 10 rfl
    have y11 := HG.out.var.cell 11 rfl
    go_wp2_with fail
    refine (rightLsa_any s1 l wc HG.out.held HM2.out.fits).mono ?_
    rintro e v1 ⟨rfl, hb⟩
    rw [HRI.out]
    replace HG : Hid (GotL w l g6 s1 v1) := HG.out.below hb
    clear hb y0 y1 y2 y3 y4 y5 y6 y7 y8 y9 y10 y11
    have y0 := HG.out.var.cell 0 rfl
    have y1 := HG.out.var.cell 1 rfl
    have y2 := HG.out.var.cell 2 rfl
    have y3 := HG.out.var.cell 3 rfl
    have y4 := HG.out.var.cell 4 rfl
    have y5 := HG.out.var.cell 5 rfl
    have y6 := HG.out.var.cell 6 rfl
    have y7 := HG.out.var.cell 7 rfl
    have y8 := HG.out.var.cell 8 rfl
    have y9 := HG.out.var.cell 9 rfl
    have y10 := HG.out.var.cell 10 rfl
    have y11 := HG.out.var.cell 11 rfl
    go_wp2_with fail
    refine (lay_any s1 l v1 HG.out.held HM2.out).mono ?_
    rintro e v2 ⟨gl, cl, rfl, ho, hb⟩
    have heq := equal_any (some ⟨gl, 0, none⟩) (some ⟨b, off, none⟩) (layZ l).length m cl cap (layZ l) (getB zs) v2 rfl HM.out.symm ho.bts (HSB.out.bts.below (below_more HG.out.two.2.2 hb HG.out.two.2.2.size)) (layZ_bd _) HSB.out.bd
    rw [HEQ.out] at heq
    replace HG : Hid (GotL w l g6 s1 v2) := HG.out.below hb
    clear hb ho y0 y1 y2 y3 y4 y5 y6 y7 y8 y9 y10 y11
    generalize (layZ l).length = nl at *
    go_wp2_with fail
    refine heq.mono ?_
    rintro e v3 ⟨rfl, hv3⟩
    subst v3
    clear heq
    have hsl : ∀ W, GotL w l g6 s1 W → Calls Tryd.prog 34 #[.agg (lsaA s1 l)] W fun e w' => e = .returned (.agg (headA (sealH l))) ∧ GotL w l g6 s1 w' := fun W h => (sealed_any s1 l W h.held HM2.out).mono fun e w' ⟨he, hb⟩ => ⟨he, h.below hb⟩
    rw [seal_shape] at hsl
    generalize (sealH l).sum = S at *
    generalize (sealH l).len = N at *
    go_upto_region 10 with fail
    have KS : Hid (∀ X, GotL w l g6 s1 X → X.cell? ⟨g6, 0, none⟩ = some (.int .i64 l.head.age) ∧ X.cell? ⟨g6, 1, none⟩ = some (.int .i64 l.head.kind) ∧ X.cell? ⟨g6, 2, none⟩ = some (.int .i64 l.head.id) ∧ X.cell? ⟨g6, 3, none⟩ = some (.int .i64 l.head.adv) ∧ X.cell? ⟨g6, 4, none⟩ = some (.int .i64 l.head.seq) ∧ X.cell? ⟨g6, 5, none⟩ = some (.int .i64 l.head.sum) ∧ X.cell? ⟨g6, 6, none⟩ = some (.int .i64 l.head.len) ∧ X.cell? ⟨g6, 7, none⟩ = some (.int .i64 l.flags) ∧ X.cell? ⟨g6, 8, none⟩ = some (.slice s1.la l.links.length s1.lc) ∧ X.cell? ⟨g6, 9, none⟩ = some (.int .i64 l.bits) ∧ X.cell? ⟨g6, 10, none⟩ = some (.slice s1.ra l.routers.length s1.rc) ∧ X.cell? ⟨g6, 11, none⟩ = some (.slice s1.va l.verts.length s1.vc) ∧ GotL w l g6 s1 X) := fun X h => ⟨h.var.cell 0 rfl, h.var.cell 1 rfl, h.var.cell 2 rfl, h.var.cell 3 rfl, h.var.cell 4 rfl, h.var.cell 5 rfl, h.var.cell 6 rfl, h.var.cell 7 rfl, h.var.cell 8 rfl, h.var.cell 9 rfl, h.var.cell 10 rfl, h.var.cell 11 rfl, h⟩
    have KB : Hid (GotL w l g6 s1 v2.drew) := HG.out.drew
    go_region_held3 (fun X => X.cell? ⟨g6, 0, none⟩ = some (.int .i64 l.head.age) ∧ X.cell? ⟨g6, 1, none⟩ = some (.int .i64 l.head.kind) ∧ X.cell? ⟨g6, 2, none⟩ = some (.int .i64 l.head.id) ∧ X.cell? ⟨g6, 3, none⟩ = some (.int .i64 l.head.adv) ∧ X.cell? ⟨g6, 4, none⟩ = some (.int .i64 l.head.seq) ∧ X.cell? ⟨g6, 5, none⟩ = some (.int .i64 l.head.sum) ∧ X.cell? ⟨g6, 6, none⟩ = some (.int .i64 l.head.len) ∧ X.cell? ⟨g6, 7, none⟩ = some (.int .i64 l.flags) ∧ X.cell? ⟨g6, 8, none⟩ = some (.slice s1.la l.links.length s1.lc) ∧ X.cell? ⟨g6, 9, none⟩ = some (.int .i64 l.bits) ∧ X.cell? ⟨g6, 10, none⟩ = some (.slice s1.ra l.routers.length s1.rc) ∧ X.cell? ⟨g6, 11, none⟩ = some (.slice s1.va l.verts.length s1.vc) ∧ GotL w l g6 s1 X) (with_reducible first | exact KS.out _ HG.out | exact KS.out _ KB.out | exact KS.out _ hk | fail)
      (first | (go_at_call 34; refine (hsl _ KB.out).mono ?_; rintro e v4 ⟨rfl, hk⟩) | fail)
    rename_i hH
    have HG4 : Hid (GotL w l g6 s1 v4) := hk
    clear hH hk hsl KS KB HG
    have K3 : Hid (Var ((((((((((((v4.setCell ⟨w.heap.size, 0, none⟩ (.int .i64 l.head.age)).setCell ⟨w.heap.size, 1, none⟩ (.int .i64 l.head.kind)).setCell ⟨w.heap.size, 2, none⟩ (.int .i64 l.head.id)).setCell ⟨w.heap.size, 3, none⟩ (.int .i64 l.head.adv)).setCell ⟨w.heap.size, 4, none⟩ (.int .i64 l.head.seq)).setCell ⟨w.heap.size, 5, none⟩ (.int .i64 l.head.sum)).setCell ⟨w.heap.size, 6, none⟩ (.int .i64 l.head.len)).setCell ⟨w.heap.size, 7, none⟩ (.int .i64 l.flags)).setCell ⟨w.heap.size, 8, none⟩ (.slice s1.la l.links.length s1.lc)).setCell ⟨w.heap.size, 9, none⟩ (.int .i64 l.bits)).setCell ⟨w.heap.size, 10, none⟩ (.slice s1.ra l.routers.length s1.rc)).setCell ⟨w.heap.size, 11, none⟩ (.slice s1.va l.verts.length s1.vc)) w.heap.size [.int .i64 l.head.age, .int .i64 l.head.kind, .int .i64 l.head.id, .int .i64 l.head.adv, .int .i64 l.head.seq, .int .i64 l.head.sum, .int .i64 l.head.len, .int .i64 l.flags, .slice s1.la l.links.length s1.lc, .int .i64 l.bits, .slice s1.ra l.routers.length s1.rc, .slice s1.va l.verts.length s1.vc]) := HG4.out.two.1.put12 (.int .i64 l.head.age) (.int .i64 l.head.kind) (.int .i64 l.head.id) (.int .i64 l.head.adv) (.int .i64 l.head.seq) (.int .i64 l.head.sum) (.int .i64 l.head.len) (.int .i64 l.flags) (.slice s1.la l.links.length s1.lc) (.int .i64 l.bits) (.slice s1.ra l.routers.length s1.rc) (.slice s1.va l.verts.length s1.vc)
    have K2 : Hid (Below w.heap.size w ((((((((((((v4.setCell ⟨w.heap.size, 0, none⟩ (.int .i64 l.head.age)).setCell ⟨w.heap.size, 1, none⟩ (.int .i64 l.head.kind)).setCell ⟨w.heap.size, 2, none⟩ (.int .i64 l.head.id)).setCell ⟨w.heap.size, 3, none⟩ (.int .i64 l.head.adv)).setCell ⟨w.heap.size, 4, none⟩ (.int .i64 l.head.seq)).setCell ⟨w.heap.size, 5, none⟩ (.int .i64 l.head.sum)).setCell ⟨w.heap.size, 6, none⟩ (.int .i64 l.head.len)).setCell ⟨w.heap.size, 7, none⟩ (.int .i64 l.flags)).setCell ⟨w.heap.size, 8, none⟩ (.slice s1.la l.links.length s1.lc)).setCell ⟨w.heap.size, 9, none⟩ (.int .i64 l.bits)).setCell ⟨w.heap.size, 10, none⟩ (.slice s1.ra l.routers.length s1.rc)).setCell ⟨w.heap.size, 11, none⟩ (.slice s1.va l.verts.length s1.vc))) := below_put12 HG4.out.two.2.2 (Nat.le_refl _) (.int .i64 l.head.age) (.int .i64 l.head.kind) (.int .i64 l.head.id) (.int .i64 l.head.adv) (.int .i64 l.head.seq) (.int .i64 l.head.sum) (.int .i64 l.head.len) (.int .i64 l.flags) (.slice s1.la l.links.length s1.lc) (.int .i64 l.bits) (.slice s1.ra l.routers.length s1.rc) (.slice s1.va l.verts.length s1.vc)
    have K4 : Hid (Held ((((((((((((v4.setCell ⟨w.heap.size, 0, none⟩ (.int .i64 l.head.age)).setCell ⟨w.heap.size, 1, none⟩ (.int .i64 l.head.kind)).setCell ⟨w.heap.size, 2, none⟩ (.int .i64 l.head.id)).setCell ⟨w.heap.size, 3, none⟩ (.int .i64 l.head.adv)).setCell ⟨w.heap.size, 4, none⟩ (.int .i64 l.head.seq)).setCell ⟨w.heap.size, 5, none⟩ (.int .i64 l.head.sum)).setCell ⟨w.heap.size, 6, none⟩ (.int .i64 l.head.len)).setCell ⟨w.heap.size, 7, none⟩ (.int .i64 l.flags)).setCell ⟨w.heap.size, 8, none⟩ (.slice s1.la l.links.length s1.lc)).setCell ⟨w.heap.size, 9, none⟩ (.int .i64 l.bits)).setCell ⟨w.heap.size, 10, none⟩ (.slice s1.ra l.routers.length s1.rc)).setCell ⟨w.heap.size, 11, none⟩ (.slice s1.va l.verts.length s1.vc)) s1 l) := ⟨HG4.out.held.hl.put12 HG4.out.far.1 (by omega) (.int .i64 l.head.age) (.int .i64 l.head.kind) (.int .i64 l.head.id) (.int .i64 l.head.adv) (.int .i64 l.head.seq) (.int .i64 l.head.sum) (.int .i64 l.head.len) (.int .i64 l.flags) (.slice s1.la l.links.length s1.lc) (.int .i64 l.bits) (.slice s1.ra l.routers.length s1.rc) (.slice s1.va l.verts.length s1.vc), HG4.out.held.hr.put12 HG4.out.far.2.1 (by omega) (.int .i64 l.head.age) (.int .i64 l.head.kind) (.int .i64 l.head.id) (.int .i64 l.head.adv) (.int .i64 l.head.seq) (.int .i64 l.head.sum) (.int .i64 l.head.len) (.int .i64 l.flags) (.slice s1.la l.links.length s1.lc) (.int .i64 l.bits) (.slice s1.ra l.routers.length s1.rc) (.slice s1.va l.verts.length s1.vc), HG4.out.held.hv.put12 HG4.out.far.2.2 (by omega) (.int .i64 l.head.age) (.int .i64 l.head.kind) (.int .i64 l.head.id) (.int .i64 l.head.adv) (.int .i64 l.head.seq) (.int .i64 l.head.sum) (.int .i64 l.head.len) (.int .i64 l.flags) (.slice s1.la l.links.length s1.lc) (.int .i64 l.bits) (.slice s1.ra l.routers.length s1.rc) (.slice s1.va l.verts.length s1.vc)⟩
    have HV : Hid (Var v4 w.heap.size [.int .i64 0, .int .i64 0, .int .i64 0, .int .i64 0, .int .i64 0, .int .i64 0, .int .i64 0, .int .i64 0, .slice none 0 0, .int .i64 0, .slice none 0 0, .slice none 0 0]) := HG4.out.two.1
    have y0 := HG4.out.var.cell 0 rfl
    have y1 := HG4.out.var.cell 1 rfl
    have y2 := HG4.out.var.cell 2 rfl
    have y3 := HG4.out.var.cell 3 rfl
    have y4 := HG4.out.var.cell 4 rfl
    have y5 := HG4.out.var.cell 5 rfl
    have y6 := HG4.out.var.cell 6 rfl
    have y7 := HG4.out.var.cell 7 rfl
    have y8 := HG4.out.var.cell 8 rfl
    have y9 := HG4.out.var.cell 9 rfl
    have y10 := HG4.out.var.cell 10 rfl
    have y11 := HG4.out.var.cell 11 rfl
    have r0 := HV.out.cell 0 rfl
    have r1 := HV.out.cell 1 rfl
    have r2 := HV.out.cell 2 rfl
    have r3 := HV.out.cell 3 rfl
    have r4 := HV.out.cell 4 rfl
    have r5 := HV.out.cell 5 rfl
    have r6 := HV.out.cell 6 rfl
    have r7 := HV.out.cell 7 rfl
    have r8 := HV.out.cell 8 rfl
    have r9 := HV.out.cell 9 rfl
    have r10 := HV.out.cell 10 rfl
    have r11 := HV.out.cell 11 rfl
    have q0 := HV.out.frozen 0
    have q1 := HV.out.frozen 1
    have q2 := HV.out.frozen 2
    have q3 := HV.out.frozen 3
    have q4 := HV.out.frozen 4
    have q5 := HV.out.frozen 5
    have q6 := HV.out.frozen 6
    have q7 := HV.out.frozen 7
    have q8 := HV.out.frozen 8
    have q9 := HV.out.frozen 9
    have q10 := HV.out.frozen 10
    have q11 := HV.out.frozen 11
    go_wp2
    clear y0 y1 y2 y3 y4 y5 y6 y7 y8 y9 y10 y11 r0 r1 r2 r3 r4 r5 r6 r7 r8 r9 r10 r11 q0 q1 q2 q3 q4 q5 q6 q7 q8 q9 q10 q11 HV
    generalize ((((((((((((v4.setCell ⟨w.heap.size, 0, none⟩ (.int .i64 l.head.age)).setCell ⟨w.heap.size, 1, none⟩ (.int .i64 l.head.kind)).setCell ⟨w.heap.size, 2, none⟩ (.int .i64 l.head.id)).setCell ⟨w.heap.size, 3, none⟩ (.int .i64 l.head.adv)).setCell ⟨w.heap.size, 4, none⟩ (.int .i64 l.head.seq)).setCell ⟨w.heap.size, 5, none⟩ (.int .i64 l.head.sum)).setCell ⟨w.heap.size, 6, none⟩ (.int .i64 l.head.len)).setCell ⟨w.heap.size, 7, none⟩ (.int .i64 l.flags)).setCell ⟨w.heap.size, 8, none⟩ (.slice s1.la l.links.length s1.lc)).setCell ⟨w.heap.size, 9, none⟩ (.int .i64 l.bits)).setCell ⟨w.heap.size, 10, none⟩ (.slice s1.ra l.routers.length s1.rc)).setCell ⟨w.heap.size, 11, none⟩ (.slice s1.va l.verts.length s1.vc)) = Z at *
    have c0 := K3.out.cell 0 rfl
    have c1 := K3.out.cell 1 rfl
    have c2 := K3.out.cell 2 rfl
    have c3 := K3.out.cell 3 rfl
    have c4 := K3.out.cell 4 rfl
    have c5 := K3.out.cell 5 rfl
    have c6 := K3.out.cell 6 rfl
    have c7 := K3.out.cell 7 rfl
    have c8 := K3.out.cell 8 rfl
    have c9 := K3.out.cell 9 rfl
    have c10 := K3.out.cell 10 rfl
    have c11 := K3.out.cell 11 rfl
    refine bodyPost_ret (by simp [results, Tryd.results46, go_sem, c0, c1, c2, c3, c4, c5, c6, c7, c8, c9, c10, c11]; try rfl) rfl ?_
    exact ⟨s1, rfl, K4.out, HG4.out.nils, HG4.out.far.mono (by omega), K2.out⟩
end Go.Proofs.YtoanjhccbmifmaaDoor
