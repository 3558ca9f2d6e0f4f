/- The numbers of faults; what keeps an advertisement from being put; Put. -/
import Derived.Test.YtoanjhccbmifmaaDoorS5W10
import Derived.Test.YtoanjhccbmifmaaDoorES
namespace Go.Proofs.YtoanjhccbmifmaaDoor
open Go.RowKit

/-- A sentinel, wrapped. -/
abbrev faultV (s : ByteArray) (a : Addr) : Value := .iface 95 (.agg #[.string s, .iface 125 (.pointer (some a))])
set_option maxHeartbeats 800000 in
theorem number_0 {w : World} {p : Nat → Addr} (h : EnvAt w p) (s : ByteArray) :
    Calls Tryd.prog 30 #[faultV s (p 0)] w fun e w' => e = .returned (.int .i64 1) ∧ Below w.heap.size w w' := by
  have HE : Hid (EnvAt w p) := h
  have HB : Hid (Below w.heap.size w w) := Below.refl _ _
  have v := h.var 0 (by decide)
  clear h
  go_enter Tryd.func30, Tryd.ntmps30
  go_wp2_with fail
  refine (is_same HE.out s 0).mono ?_
  rintro e u0 ⟨rfl, hb, hE⟩
  replace HB : Hid (Below w.heap.size w u0) := below_more HB.out hb HB.out.size
  replace HE : Hid (EnvAt u0 p) := hE
  clear hb hE v
  go_wp2
  go_ret
  exact ⟨rfl, HB.out⟩
set_option maxHeartbeats 800000 in
theorem number_1 {w : World} {p : Nat → Addr} (h : EnvAt w p) (s : ByteArray) :
    Calls Tryd.prog 30 #[faultV s (p 1)] w fun e w' => e = .returned (.int .i64 2) ∧ Below w.heap.size w w' := by
  have HE : Hid (EnvAt w p) := h
  have HB : Hid (Below w.heap.size w w) := Below.refl _ _
  have v := h.var 0 (by decide)
  clear h
  go_enter Tryd.func30, Tryd.ntmps30
  go_wp2_with fail
  refine (is_other HE.out s 1 0 (by decide) (by decide) (by decide)).mono ?_
  rintro e u0 ⟨rfl, hb, hE⟩
  replace HB : Hid (Below w.heap.size w u0) := below_more HB.out hb HB.out.size
  replace HE : Hid (EnvAt u0 p) := hE
  clear hb hE v
  have v := HE.out.var 1 (by decide)
  go_wp2_with fail
  refine (is_same HE.out s 1).mono ?_
  rintro e u1 ⟨rfl, hb, hE⟩
  replace HB : Hid (Below w.heap.size w u1) := below_more HB.out hb HB.out.size
  replace HE : Hid (EnvAt u1 p) := hE
  clear hb hE v
  go_wp2
  go_ret
  exact ⟨rfl, HB.out⟩
set_option maxHeartbeats 800000 in
theorem number_2 {w : World} {p : Nat → Addr} (h : EnvAt w p) (s : ByteArray) :
    Calls Tryd.prog 30 #[faultV s (p 2)] w fun e w' => e = .returned (.int .i64 3) ∧ Below w.heap.size w w' := by
  have HE : Hid (EnvAt w p) := h
  have HB : Hid (Below w.heap.size w w) := Below.refl _ _
  have v := h.var 0 (by decide)
  clear h
  go_enter Tryd.func30, Tryd.ntmps30
  go_wp2_with fail
  refine (is_other HE.out s 2 0 (by decide) (by decide) (by decide)).mono ?_
  rintro e u0 ⟨rfl, hb, hE⟩
  replace HB : Hid (Below w.heap.size w u0) := below_more HB.out hb HB.out.size
  replace HE : Hid (EnvAt u0 p) := hE
  clear hb hE v
  have v := HE.out.var 1 (by decide)
  go_wp2_with fail
  refine (is_other HE.out s 2 1 (by decide) (by decide) (by decide)).mono ?_
  rintro e u1 ⟨rfl, hb, hE⟩
  replace HB : Hid (Below w.heap.size w u1) := below_more HB.out hb HB.out.size
  replace HE : Hid (EnvAt u1 p) := hE
  clear hb hE v
  have v := HE.out.var 2 (by decide)
  go_wp2_with fail
  refine (is_same HE.out s 2).mono ?_
  rintro e u2 ⟨rfl, hb, hE⟩
  replace HB : Hid (Below w.heap.size w u2) := below_more HB.out hb HB.out.size
  replace HE : Hid (EnvAt u2 p) := hE
  clear hb hE v
  go_wp2
  go_ret
  exact ⟨rfl, HB.out⟩
set_option maxHeartbeats 800000 in
theorem number_3 {w : World} {p : Nat → Addr} (h : EnvAt w p) (s : ByteArray) :
    Calls Tryd.prog 30 #[faultV s (p 3)] w fun e w' => e = .returned (.int .i64 4) ∧ Below w.heap.size w w' := by
  have HE : Hid (EnvAt w p) := h
  have HB : Hid (Below w.heap.size w w) := Below.refl _ _
  have v := h.var 0 (by decide)
  clear h
  go_enter Tryd.func30, Tryd.ntmps30
  go_wp2_with fail
  refine (is_other HE.out s 3 0 (by decide) (by decide) (by decide)).mono ?_
  rintro e u0 ⟨rfl, hb, hE⟩
  replace HB : Hid (Below w.heap.size w u0) := below_more HB.out hb HB.out.size
  replace HE : Hid (EnvAt u0 p) := hE
  clear hb hE v
  have v := HE.out.var 1 (by decide)
  go_wp2_with fail
  refine (is_other HE.out s 3 1 (by decide) (by decide) (by decide)).mono ?_
  rintro e u1 ⟨rfl, hb, hE⟩
  replace HB : Hid (Below w.heap.size w u1) := below_more HB.out hb HB.out.size
  replace HE : Hid (EnvAt u1 p) := hE
  clear hb hE v
  have v := HE.out.var 2 (by decide)
  go_wp2_with fail
  refine (is_other HE.out s 3 2 (by decide) (by decide) (by decide)).mono ?_
  rintro e u2 ⟨rfl, hb, hE⟩
  replace HB : Hid (Below w.heap.size w u2) := below_more HB.out hb HB.out.size
  replace HE : Hid (EnvAt u2 p) := hE
  clear hb hE v
  have v := HE.out.var 3 (by decide)
  go_wp2_with fail
  refine (is_same HE.out s 3).mono ?_
  rintro e u3 ⟨rfl, hb, hE⟩
  replace HB : Hid (Below w.heap.size w u3) := below_more HB.out hb HB.out.size
  replace HE : Hid (EnvAt u3 p) := hE
  clear hb hE v
  go_wp2
  go_ret
  exact ⟨rfl, HB.out⟩
set_option maxHeartbeats 800000 in
theorem number_4 {w : World} {p : Nat → Addr} (h : EnvAt w p) (s : ByteArray) :
    Calls Tryd.prog 30 #[faultV s (p 4)] w fun e w' => e = .returned (.int .i64 5) ∧ Below w.heap.size w w' := by
  have HE : Hid (EnvAt w p) := h
  have HB : Hid (Below w.heap.size w w) := Below.refl _ _
  have v := h.var 0 (by decide)
  clear h
  go_enter Tryd.func30, Tryd.ntmps30
  go_wp2_with fail
  refine (is_other HE.out s 4 0 (by decide) (by decide) (by decide)).mono ?_
  rintro e u0 ⟨rfl, hb, hE⟩
  replace HB : Hid (Below w.heap.size w u0) := below_more HB.out hb HB.out.size
  replace HE : Hid (EnvAt u0 p) := hE
  clear hb hE v
  have v := HE.out.var 1 (by decide)
  go_wp2_with fail
  refine (is_other HE.out s 4 1 (by decide) (by decide) (by decide)).mono ?_
  rintro e u1 ⟨rfl, hb, hE⟩
  replace HB : Hid (Below w.heap.size w u1) := below_more HB.out hb HB.out.size
  replace HE : Hid (EnvAt u1 p) := hE
  clear hb hE v
  have v := HE.out.var 2 (by decide)
  go_wp2_with fail
  refine (is_other HE.out s 4 2 (by decide) (by decide) (by decide)).mono ?_
  rintro e u2 ⟨rfl, hb, hE⟩
  replace HB : Hid (Below w.heap.size w u2) := below_more HB.out hb HB.out.size
  replace HE : Hid (EnvAt u2 p) := hE
  clear hb hE v
  have v := HE.out.var 3 (by decide)
  go_wp2_with fail
  refine (is_other HE.out s 4 3 (by decide) (by decide) (by decide)).mono ?_
  rintro e u3 ⟨rfl, hb, hE⟩
  replace HB : Hid (Below w.heap.size w u3) := below_more HB.out hb HB.out.size
  replace HE : Hid (EnvAt u3 p) := hE
  clear hb hE v
  have v := HE.out.var 4 (by decide)
  go_wp2_with fail
  refine (is_same HE.out s 4).mono ?_
  rintro e u4 ⟨rfl, hb, hE⟩
  replace HB : Hid (Below w.heap.size w u4) := below_more HB.out hb HB.out.size
  replace HE : Hid (EnvAt u4 p) := hE
  clear hb hE v
  go_wp2
  go_ret
  exact ⟨rfl, HB.out⟩
end Go.Proofs.YtoanjhccbmifmaaDoor
