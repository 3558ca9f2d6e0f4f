/- errors.As at a fault of package ip that one wrapper holds; the number that is told at the face. -/
import Derived.Test.YtknpgpmckabmbaaDoorAs
namespace Go.Proofs.YtknpgpmckabmbaaDoor
open Go.RowKit Go.Extern.Stop Go.Stop Go.Extern

set_option maxHeartbeats 4000000 in
theorem as_loop (s : ByteArray) (k : Int) (t a : Addr) (old v : Value) (w : World) (ha : w.cell? a = some (.pointer (some t))) (ht : w.cell? t = some old) (hf : w.frozen? t = false) :
    Calls Tryd.prog 37 #[.iface 55 (.agg #[.string s, .iface 53 (.int .i64 k)]), v, .agg #[.pointer (some ⟨1, 57, none⟩), .pointer (some a), .int .u64 150], .iface 77 (.agg #[.pointer (some ⟨1, 53, none⟩)])] w
      fun e w' => e = .returned (.bool true) ∧ w' = (((w.alloc (.cells #[.pointer (some ⟨1, 57, none⟩), .pointer (some a), .int .u64 150] 66)).alloc (.cells #[.string s, .iface 53 (.int .i64 k)] 55)).alloc (.cells #[.int .i64 k] 53)).setCell t (.int .i64 k) := by
  have hal : a.block < w.heap.size := by
    rcases Nat.lt_or_ge a.block w.heap.size with h | h
    · exact h
    · simp [World.cell?, Array.getElem?_eq_none h] at ha
  have htl : t.block < w.heap.size := by
    rcases Nat.lt_or_ge t.block w.heap.size with h | h
    · exact h
    · simp [World.cell?, Array.getElem?_eq_none h] at ht
  have h34 := @run_callFunc_extern Tryd.prog 34 _ (fun args => ReflectliteValue.unpack (args.getD 0 (.tuple #[]))) Tryd.func34 (by kernel_rfl) (by kernel_rfl) (by kernel_rfl) (by kernel_rfl)
  have h39 := @run_callFunc_extern Tryd.prog 39 _ ReflectliteType.typeOf Tryd.func39 (by kernel_rfl) (by kernel_rfl) (by kernel_rfl) (by kernel_rfl)
  have h66 := @run_callFunc_extern Tryd.prog 66 _ (ReflectliteType.relation "AssignableTo" ReflectliteType.assignableTo) Tryd.func66 (by kernel_rfl) (by kernel_rfl) (by kernel_rfl) (by kernel_rfl)
  have h40 := @run_callFunc_extern Tryd.prog 40 _ (ReflectliteValue.method (ReflectliteValue.valueError "reflectlite.Value.Elem" 0) ReflectliteValue.elem) Tryd.func40 (by kernel_rfl) (by kernel_rfl) (by kernel_rfl) (by kernel_rfl)
  have h41 := @run_callFunc_extern Tryd.prog 41 _ ReflectliteValue.set Tryd.func41 (by kernel_rfl) (by kernel_rfl) (by kernel_rfl) (by kernel_rfl)
  have q1 := as_typeOfF
  have q2 := as_typeOfW
  have q3 := as_methodAssignableTo
  have q4 := as_assignF
  have q5 := as_assignW
  have q6 := as_valueOfF
  have q7 := as_noAs
  have q8 := as_hasUnwrap
  have q9 := as_methodUnwrap
  generalize hV : Obj.cells #[.pointer (some ⟨1, 57, none⟩), .pointer (some a), .int .u64 150] 66 = V
  generalize hU : Obj.cells #[.string s, .iface 53 (.int .i64 k)] 55 = U
  have el := as_elemV a t ((w.alloc V).alloc U) (by rw [World.cell?_alloc_lt _ _ a (by simp; omega), World.cell?_alloc_lt _ _ a hal]; exact ha)
  have st := as_set t ⟨w.heap.size + 1 + 1, 0, none⟩ k old (((w.alloc V).alloc U).alloc (.cells #[.int .i64 k] 53))
    (by rw [World.cell?_alloc_at _ _ _ _ (by simp)]; rfl)
    (by rw [World.cell?_alloc_lt _ _ t (by simp; omega), World.cell?_alloc_lt _ _ t (by simp; omega), World.cell?_alloc_lt _ _ t htl]; exact ht)
    (by rw [World.frozen?_alloc_old _ _ t (by simp; omega), World.frozen?_alloc_old _ _ t (by simp; omega), World.frozen?_alloc_old _ _ t (Nat.ne_of_lt htl)]; exact hf)
  subst hV hU
  go_enter Tryd.func37, Tryd.ntmps37
  go_wp2
  refine wp_loop_rounds 2 ?_
  rw [rounds_succ]
  go_wp2_with (go_at_call 61; refine (unwrap_any _ _ _).mono ?_; rintro e w' ⟨rfl, rfl⟩)
  rw [rounds_succ]
  go_wp2
  go_ret
  exact ⟨rfl, rfl⟩

theorem as_end {w v : World} {t : Addr} {old : Value} (k : Int) (hb : Below w.heap.size w v) (ht : w.cell? t = some old) (htl : t.block < w.heap.size) :
    (v.setCell t (.int .i64 k)).cell? t = some (.int .i64 k) ∧ Below t.block w (v.setCell t (.int .i64 k)) :=
  ⟨World.cell?_setCell_same _ _ _ (u := old) (by rw [hb.cell htl]; exact ht), (hb.mono (Nat.le_of_lt htl)).setCell (Nat.le_refl _) _⟩
set_option maxHeartbeats 4000000 in
theorem as_part (s : ByteArray) (k : Int) (t : Addr) (old : Value) (w : World) (hg : Env w) (ht : w.cell? t = some old) (hf : w.frozen? t = false) :
    Calls Tryd.prog 26 #[.iface 55 (.agg #[.string s, .iface 53 (.int .i64 k)]), .iface 57 (.pointer (some t))] w
      fun e w' => e = .returned (.bool true) ∧ w'.cell? t = some (.int .i64 k) ∧ Below t.block w w' := by
  have htl : t.block < w.heap.size := by
    rcases Nat.lt_or_ge t.block w.heap.size with h | h
    · exact h
    · simp [World.cell?, Array.getElem?_eq_none h] at ht
  have h34 := @run_callFunc_extern Tryd.prog 34 _ (fun args => ReflectliteValue.unpack (args.getD 0 (.tuple #[]))) Tryd.func34 (by kernel_rfl) (by kernel_rfl) (by kernel_rfl) (by kernel_rfl)
  have h35 := @run_callFunc_extern Tryd.prog 35 _ (ReflectliteValue.methodAny (ReflectliteValue.valueError "reflectlite.Value.Type" 0) (fun t _ _ _ => ReflectliteType.toType t)) Tryd.func35 (by kernel_rfl) (by kernel_rfl) (by kernel_rfl) (by kernel_rfl)
  have h36 := @run_callFunc_extern Tryd.prog 36 _ (ReflectliteValue.method (ReflectliteValue.valueError "reflectlite.Value.IsNil" 0) ReflectliteValue.isNil) Tryd.func36 (by kernel_rfl) (by kernel_rfl) (by kernel_rfl) (by kernel_rfl)
  have h56 := @run_callFunc_extern Tryd.prog 56 _ (ReflectliteType.abiMethod fun t => do pure (.int .u8 (← Rtype.kind t))) Tryd.func56 (by kernel_rfl) (by kernel_rfl) (by kernel_rfl) (by kernel_rfl)
  have h68 := @run_callFunc_extern Tryd.prog 68 _ (ReflectliteType.method ReflectliteType.elem) Tryd.func68 (by kernel_rfl) (by kernel_rfl) (by kernel_rfl) (by kernel_rfl)
  have h69 := @run_callFunc_extern Tryd.prog 69 _ (ReflectliteType.relation "Implements" ReflectliteType.implements_) Tryd.func69 (by kernel_rfl) (by kernel_rfl) (by kernel_rfl) (by kernel_rfl)
  have q1 := as_valueOfP
  have q2 := as_typeP
  have q3 := as_methodKind
  have q4 := as_methodElem
  have q5 := as_methodImplements
  have q6 := as_kindP
  have q7 := as_kindF
  have q8 := as_elemP
  have q9 := as_implements
  have hlt := hg.lt
  have n8 := as_isNil ⟨w.heap.size, 0, none⟩ t ((w.alloc (.cells #[.pointer (some t)] 57)).alloc (.cells #[.pointer (some ⟨1, 57, none⟩), .pointer (some ⟨w.heap.size, 0, none⟩), .int .u64 150] 66)) (by simp)
  have hg2 : ((w.alloc (.cells #[.pointer (some t)] 57)).alloc (.cells #[.pointer (some ⟨1, 57, none⟩), .pointer (some ⟨w.heap.size, 0, none⟩), .int .u64 150] 66)).cell? ⟨0, 0, none⟩ = some (.iface 77 (.agg #[.pointer (some ⟨1, 43, none⟩)])) := by
    have hb : Below w.heap.size w ((w.alloc (.cells #[.pointer (some t)] 57)).alloc (.cells #[.pointer (some ⟨1, 57, none⟩), .pointer (some ⟨w.heap.size, 0, none⟩), .int .u64 150] 66)) := ((Below.refl _ _).alloc (Nat.le_refl _) _).alloc (by simp) _
    exact hg.below hb (Nat.le_refl _)
  have hl := as_loop s k t ⟨w.heap.size, 0, none⟩ old (.iface 57 (.pointer (some t))) ((w.alloc (.cells #[.pointer (some t)] 57)).alloc (.cells #[.pointer (some ⟨1, 57, none⟩), .pointer (some ⟨w.heap.size, 0, none⟩), .int .u64 150] 66)) (by simp)
    (by rw [World.cell?_alloc_lt _ _ t (by simp; omega), World.cell?_alloc_lt _ _ t htl]; exact ht)
    (by rw [World.frozen?_alloc_old _ _ t (by simp; omega), World.frozen?_alloc_old _ _ t (Nat.ne_of_lt htl)]; exact hf)
  have HT : Hid (w.cell? t = some old) := ht
  have HL : Hid (t.block < w.heap.size) := htl
  clear hg ht hf htl
  go_enter Tryd.func26, Tryd.ntmps26
  go_wp2_with fail
  refine hl.mono ?_
  rintro e w' ⟨rfl, rfl⟩
  clear hl
  go_wp2
  go_ret
  exact ⟨rfl, as_end k (((((Below.refl _ _).alloc (Nat.le_refl _) _).alloc (by simp) _).alloc (by simp; omega) _).alloc (by simp; omega) _ |>.alloc (by simp; omega) _) HT.out HL.out⟩

theorem number_nil (w : World) : Calls Tryd.prog 16 #[.nilIface] w fun e w' => e = .returned (.int .i64 0) ∧ Below w.heap.size w w' := by
  go_enter Tryd.func16, Tryd.ntmps16
  go_wp2_with fail
  refine (as_nil _ _).mono ?_
  rintro e w' ⟨rfl, rfl⟩
  go_wp2
  go_ret
  exact ⟨rfl, (Below.refl _ _).alloc (Nat.le_refl _) _⟩
theorem number_part (s : ByteArray) (k : Int) (w : World) (hg : Env w) :
    Calls Tryd.prog 16 #[.iface 55 (.agg #[.string s, .iface 53 (.int .i64 k)])] w fun e w' => e = .returned (.int .i64 k) ∧ Below w.heap.size w w' := by
  have hb : Below w.heap.size w (w.alloc (.cells #[.int .i64 0] 53)) := (Below.refl _ _).alloc (Nat.le_refl _) _
  have h1 := as_part s k ⟨w.heap.size, 0, none⟩ (.int .i64 0) (w.alloc (.cells #[.int .i64 0] 53)) (hg.below hb (Nat.le_refl _)) (by simp) (by simp)
  have HB : Hid (Below w.heap.size w (w.alloc (.cells #[.int .i64 0] 53))) := hb
  clear hb
  go_enter Tryd.func16, Tryd.ntmps16
  go_wp2_with fail
  refine h1.mono ?_
  rintro e w' ⟨rfl, hc, hb2⟩
  have HB2 : Hid (Below w.heap.size w w') := HB.out.trans hb2
  clear h1 hb2 HB
  go_wp2
  go_ret
  exact ⟨rfl, HB2.out⟩
end Go.Proofs.YtknpgpmckabmbaaDoor
