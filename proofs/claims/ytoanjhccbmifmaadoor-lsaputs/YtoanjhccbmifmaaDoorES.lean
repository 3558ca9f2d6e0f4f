/- errors.Is at a wrapped sentinel; the number that package  tells at its face. -/
import Derived.Test.YtoanjhccbmifmaaDoorOC
import Derived.LaidEql
import Derived.Stop.Asserts
import Derived.RowKitTokens
namespace Go.Proofs.YtoanjhccbmifmaaDoor
open Go.RowKit Go.Extern.Stop Go.Stop Go.Extern

/-- The five sentinels, at the addresses p. -/
structure EnvAt (w : World) (p : Nat → Addr) : Prop where
  var : ∀ i, i < 5 → w.cell? ⟨i, 0, none⟩ = some (.iface 125 (.pointer (some (p i))))
  row : ∀ i, i < 5 → ∃ c t, w.heap[(p i).block]? = some (.cells c t (0, 0))
  apart : ∀ i j, i < 5 → j < 5 → i ≠ j → p i ≠ p j
def Env (w : World) : Prop := ∃ p, EnvAt w p
theorem EnvAt.below {w w' : World} {p : Nat → Addr} {N : Nat} (h : EnvAt w p) (hb : Below N w w') (hN : w.heap.size ≤ N) : EnvAt w' p := by
  refine ⟨fun i hi => ?_, fun i hi => ?_, h.apart⟩
  · have h0 := h.var i hi
    rw [hb.cell (by
      show i < N
      rcases Nat.lt_or_ge i w.heap.size with h | h
      · omega
      · simp [World.cell?, Array.getElem?_eq_none h] at h0)]
    exact h0
  · obtain ⟨c, t, h0⟩ := h.row i hi
    exact ⟨c, t, by rw [hb.block _ (Nat.lt_of_lt_of_le (Array.getElem?_eq_some_iff.1 h0).1 hN)]; exact h0⟩
theorem Env.below {w w' : World} {N : Nat} (h : Env w) (hb : Below N w w') (hN : w.heap.size ≤ N) : Env w' := by
  obtain ⟨p, h⟩ := h; exact ⟨p, h.below hb hN⟩

theorem is_typeOf (v : Value) (w : World) : (Extern.ReflectliteType.typeOf #[.iface 125 v]).run Tryd.prog w = .ok (.iface 115 (.agg #[.pointer (some ⟨5, 125, none⟩)])) w := by kernel_rfl
theorem is_some : (Extern.find Tryd.f113).isSome = true := by kernel_rfl
theorem is_cmp : ∃ m, Extern.find Tryd.f113 = some m ∧ ∀ w, (m #[.agg #[.pointer (some ⟨5, 125, none⟩)]]).run Tryd.prog w = .ok (.bool true) w :=
  ⟨(Extern.find Tryd.f113).get is_some, (Option.some_get is_some).symm, fun w => by kernel_rfl⟩
theorem is_methodComparable (v : Value) (w : World) : (Go.method 262 115 v "Comparable").run Tryd.prog w = .ok (113, v) w := by kernel_rfl
theorem is_comp : (Tryd.prog.info? 125).map (·.comparable) = some true := by kernel_rfl
theorem is_size : (Tryd.prog.info? 151).map (·.size) = some 1 := by kernel_rfl
theorem is_noIsE (v : Value) (xT : TypeId) (w : World) : (Instr.typeAssert (.iface 125 v) xT 117 true).run Tryd.prog w = .ok (.tuple #[.nilIface, .bool false]) w := run_typeAssert_lacksB Tryd.underlying117 (by kernel_rfl) (by kernel_rfl) v xT w
theorem is_noUnwrapE (v : Value) (xT : TypeId) (w : World) : (Instr.typeAssert (.iface 125 v) xT 120 true).run Tryd.prog w = .ok (.tuple #[.nilIface, .bool false]) w := run_typeAssert_lacksB Tryd.underlying120 (by kernel_rfl) (by kernel_rfl) v xT w
theorem is_noUnwrapsE (v : Value) (xT : TypeId) (w : World) : (Instr.typeAssert (.iface 125 v) xT 122 true).run Tryd.prog w = .ok (.tuple #[.nilIface, .bool false]) w := run_typeAssert_lacksB Tryd.underlying122 (by kernel_rfl) (by kernel_rfl) v xT w
theorem is_noIsW (v : Value) (xT : TypeId) (w : World) : (Instr.typeAssert (.iface 95 v) xT 117 true).run Tryd.prog w = .ok (.tuple #[.nilIface, .bool false]) w := run_typeAssert_lacksB Tryd.underlying117 (by kernel_rfl) (by kernel_rfl) v xT w
theorem is_hasUnwrapW (v : Value) (xT : TypeId) (w : World) : (Instr.typeAssert (.iface 95 v) xT 120 true).run Tryd.prog w = .ok (.tuple #[.iface 95 v, .bool true]) w := run_typeAssert_hasB Tryd.underlying120 (by kernel_rfl) v xT w
theorem is_methodUnwrap (v : Value) (w : World) : (Go.method 262 95 v "Unwrap").run Tryd.prog w = .ok (109, v) w := by kernel_rfl
theorem unwrap_any (s : ByteArray) (e : Value) (w : World) :
    Calls Tryd.prog 109 #[.agg #[.string s, e]] w fun ev w' => ev = .returned e ∧ w' = w.alloc (.cells #[.string s, e] 95) := by
  go_enter Tryd.func109, Tryd.ntmps109
  go_wp2
  go_ret
  exact ⟨rfl, rfl⟩
theorem wrap_any (s : ByteArray) (t : TypeId) (v : Value) (w : World) :
    Calls Tryd.prog 56 #[.string s, .iface t v] w fun ev w' => ev = .returned (.iface 95 (.agg #[.string s, .iface t v])) ∧ w' = w := by
  go_enter Tryd.func56, Tryd.ntmps56
  go_wp2
  go_ret
  exact ⟨rfl, rfl⟩

set_option maxHeartbeats 1600000 in
theorem is_part (s : ByteArray) (a b : Addr) (r : Bool) (w : World) (heq : ∀ W, Below w.heap.size w W → (binOp .eql 60 (.iface 125 (.pointer (some a))) (.iface 125 (.pointer (some b)))).run Tryd.prog W = .ok (.bool r) W) :
    Calls Tryd.prog 57 #[.iface 95 (.agg #[.string s, .iface 125 (.pointer (some a))]), .iface 125 (.pointer (some b))] w fun e w' => e = .returned (.bool r) ∧ Below w.heap.size w w' := by
  have h8 := @run_callFunc_extern Tryd.prog 75 _ Extern.ReflectliteType.typeOf Tryd.func75 (by kernel_rfl) (by kernel_rfl) (by kernel_rfl) (by kernel_rfl)
  obtain ⟨mc, hmc, cT⟩ := is_cmp
  have h32 := @run_callFunc_extern Tryd.prog 113 _ mc Tryd.func113 (by kernel_rfl) (by kernel_rfl) (by kernel_rfl) hmc
  have tT := is_typeOf
  clear hmc
  have mR := is_methodComparable
  have nE := is_noIsE
  have uE := is_noUnwrapE
  have vE := is_noUnwrapsE
  have nW := is_noIsW
  have uW := is_hasUnwrapW
  have mU := is_methodUnwrap
  have HB : Hid (Below w.heap.size w (w.alloc (.cells #[.string s, .iface 125 (.pointer (some a))] 95))) := (Below.refl _ _).alloc (Nat.le_refl _) _
  have he := heq _ HB.out
  have hty := fun W => run_eql_iface_types (P := Tryd.prog) 95 125 (.agg #[.string s, .iface 125 (.pointer (some a))]) (.pointer (some b)) Tryd.underlying60 (by decide) W
  clear heq
  cases r with
  | true =>
    go_enter Tryd.func57, Tryd.ntmps57
    go_wp2
    refine wp_loop_rounds 2 ?_
    rw [rounds_succ]
    go_wp2
    rw [rounds_succ]
    go_wp2
    go_ret
    exact ⟨rfl, HB.out⟩
  | false =>
    go_enter Tryd.func57, Tryd.ntmps57
    go_wp2
    refine wp_loop_rounds 2 ?_
    rw [rounds_succ]
    go_wp2
    rw [rounds_succ]
    go_wp2
    go_ret
    exact ⟨rfl, HB.out⟩
theorem is_same {w : World} {p : Nat → Addr} (h : EnvAt w p) (s : ByteArray) (i : Nat) :
    Calls Tryd.prog 57 #[.iface 95 (.agg #[.string s, .iface 125 (.pointer (some (p i)))]), .iface 125 (.pointer (some (p i)))] w fun e w' => e = .returned (.bool true) ∧ Below w.heap.size w w' ∧ EnvAt w' p := by
  obtain ⟨k, hk, hcmp⟩ := Option.map_eq_some_iff.1 is_comp
  obtain ⟨j, hj, hjs⟩ := Option.map_eq_some_iff.1 is_size
  exact (is_part s (p i) (p i) true w fun W _ => run_eql_iface_ptr_same (P := Tryd.prog) W (p i) Tryd.underlying60 Tryd.underlying125 hk hcmp hj).mono fun e w' ⟨h1, h2⟩ => ⟨h1, h2, h.below h2 (Nat.le_refl _)⟩
theorem is_other {w : World} {p : Nat → Addr} (h : EnvAt w p) (s : ByteArray) (i k : Nat) (hi : i < 5) (hk : k < 5) (hne : i ≠ k) :
    Calls Tryd.prog 57 #[.iface 95 (.agg #[.string s, .iface 125 (.pointer (some (p i)))]), .iface 125 (.pointer (some (p k)))] w fun e w' => e = .returned (.bool false) ∧ Below w.heap.size w w' ∧ EnvAt w' p := by
  obtain ⟨q, hq, hcmp⟩ := Option.map_eq_some_iff.1 is_comp
  obtain ⟨j, hj, hjs⟩ := Option.map_eq_some_iff.1 is_size
  exact (is_part s (p i) (p k) false w fun W hW => by
    have hE := h.below hW (Nat.le_refl _)
    obtain ⟨c1, t1, r1⟩ := hE.row i hi
    obtain ⟨c2, t2, r2⟩ := hE.row k hk
    exact run_eql_iface_ptr_other (P := Tryd.prog) W Tryd.underlying60 Tryd.underlying125 hq hcmp hj (by rw [hjs]; decide) (h.apart i k hi hk hne) r1 r2).mono fun e w' ⟨h1, h2⟩ => ⟨h1, h2, h.below h2 (Nat.le_refl _)⟩
end Go.Proofs.YtoanjhccbmifmaaDoor
