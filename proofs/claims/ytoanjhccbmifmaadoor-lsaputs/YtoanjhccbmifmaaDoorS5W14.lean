/- Whether two advertisements have one body; the Key. -/
import Derived.Test.YtoanjhccbmifmaaDoorS5W13
namespace Go.Proofs.YtoanjhccbmifmaaDoor
open Go.RowKit

def bodyB (a b : LsaZ) : Bool := (a.head.kind == b.head.kind) && (a.flags == b.flags) && eqLinksB a.links b.links && (a.bits == b.bits) && decide (a.routers = b.routers) && eqVertsB a.verts b.verts
abbrev keyA (h : HeadZ) : Array Value := #[.int .i64 h.kind, .int .i64 h.id, .int .i64 h.adv]
set_option maxHeartbeats 800000 in
theorem keyOf_any (h : HeadZ) (w : World) :
    Calls Tryd.prog 21 #[.agg (headA h)] w fun e w' => e = .returned (.agg (keyA h)) ∧ Below w.heap.size w w' := by
  have HB : Hid (Below w.heap.size w ((w.alloc (.cells (headA h) 23)).alloc (.cells (keyA h) 41))) := (below_new' _ _).alloc (by simp) _
  go_enter Tryd.func21, Tryd.ntmps21
  go_wp2
  refine bodyPost_ret (by simp [results, Tryd.results21, go_sem]; try rfl) rfl ?_
  exact ⟨rfl, HB.out⟩
set_option maxHeartbeats 3200000 in
theorem body_any (s t : Seats) (a b : LsaZ) (w : World) (ha : Held w s a) (hb : Held w t b) (fa : Fits a) (fb : Fits b) :
    Calls Tryd.prog 19 #[.agg (lsaA s a), .agg (lsaA t b)] w fun e w' => e = .returned (.bool (bodyB a b)) ∧ Below w.heap.size w w' := by
  have HE : Hid (bodyB a b = ((a.head.kind == b.head.kind) && (a.flags == b.flags) && eqLinksB a.links b.links && (a.bits == b.bits) && decide (a.routers = b.routers) && eqVertsB a.verts b.verts)) := rfl
  have HA : Hid (Held w s a) := ha
  have HC : Hid (Held w t b) := hb
  have FA : Hid (Fits a) := fa
  have FB : Hid (Fits b) := fb
  have HX : Hid (Box ((w.alloc (.cells (lsaA s a) 28)).alloc (.cells (lsaA t b) 28)) w.heap.size s a) := (box_new w s a).below ((Below.refl _ _).alloc (Nat.le_refl _) _) (by simp)
  have HY : Hid (Box ((w.alloc (.cells (lsaA s a) 28)).alloc (.cells (lsaA t b) 28)) (w.heap.size + 1) t b) := by
    have := box_new (w.alloc (.cells (lsaA s a) 28)) t b
    rw [size_new] at this; exact this
  have HB : Hid (Below w.heap.size w ((w.alloc (.cells (lsaA s a) 28)).alloc (.cells (lsaA t b) 28))) := (below_new' _ _).alloc (by simp) _
  clear ha hb fa fb
  generalize bodyB a b = R at *
  go_enter Tryd.func19, Tryd.ntmps19
  go_upto_region 1 with fail
  generalize (w.alloc (.cells (lsaA s a) 28)).alloc (.cells (lsaA t b) 28) = W at *
  obtain ⟨c0, c1, c2, c3, c4, c5, c6, c7, c8, c9, c10, c11⟩ := HX.out
  obtain ⟨b0, b1, b2, b3, b4, b5, b6, b7, b8, b9, b10, b11⟩ := HY.out
  cases d0 : (a.head.kind == b.head.kind) with
  | false =>
    go_wp2
    go_ret
    exact ⟨ret_bool (by rw [HE.out, d0]; simp), HB.out⟩
  | true =>
    cases d1 : (a.flags == b.flags) with
    | false =>
      go_wp2
      go_ret
      exact ⟨ret_bool (by rw [HE.out, d0, d1]; simp), HB.out⟩
    | true =>
      go_wp2_with fail
      refine (eqLinks_any _ _ _ _ _ _ a.links b.links _ rfl rfl (HA.out.below HB.out).hl (HC.out.below HB.out).hl FA.out.hl FB.out.hl).mono ?_
      rintro e w2 ⟨rfl, hb⟩
      replace HB : Hid (Below w.heap.size w w2) := below_more HB.out hb HB.out.size
      replace HX : Hid (Box w2 w.heap.size s a) := HX.out.below hb HX.out.lt
      replace HY : Hid (Box w2 (w.heap.size + 1) t b) := HY.out.below hb HY.out.lt
      clear hb c0 c1 c2 c3 c4 c5 c6 c7 c8 c9 c10 c11 b0 b1 b2 b3 b4 b5 b6 b7 b8 b9 b10 b11
      cases d2 : eqLinksB a.links b.links with
      | false =>
        go_wp2
        go_ret
        exact ⟨ret_bool (by rw [HE.out, d0, d1, d2]; simp), HB.out⟩
      | true =>
        obtain ⟨c0, c1, c2, c3, c4, c5, c6, c7, c8, c9, c10, c11⟩ := HX.out
        obtain ⟨b0, b1, b2, b3, b4, b5, b6, b7, b8, b9, b10, b11⟩ := HY.out
        cases d3 : (a.bits == b.bits) with
        | false =>
          go_wp2
          go_ret
          exact ⟨ret_bool (by rw [HE.out, d0, d1, d2, d3]; simp), HB.out⟩
        | true =>
          go_wp2_with fail
          refine (eqInts_any _ _ _ _ _ _ a.routers b.routers _ rfl rfl (HA.out.below HB.out).hr (HC.out.below HB.out).hr FA.out.hr FB.out.hr).mono ?_
          rintro e w3 ⟨rfl, hb⟩
          replace HB : Hid (Below w.heap.size w w3) := below_more HB.out hb HB.out.size
          replace HX : Hid (Box w3 w.heap.size s a) := HX.out.below hb HX.out.lt
          replace HY : Hid (Box w3 (w.heap.size + 1) t b) := HY.out.below hb HY.out.lt
          clear hb c0 c1 c2 c3 c4 c5 c6 c7 c8 c9 c10 c11 b0 b1 b2 b3 b4 b5 b6 b7 b8 b9 b10 b11
          cases d4 : decide (a.routers = b.routers) with
          | false =>
            go_wp2
            go_ret
            exact ⟨ret_bool (by rw [HE.out, d0, d1, d2, d3, d4]; simp), HB.out⟩
          | true =>
            obtain ⟨c0, c1, c2, c3, c4, c5, c6, c7, c8, c9, c10, c11⟩ := HX.out
            obtain ⟨b0, b1, b2, b3, b4, b5, b6, b7, b8, b9, b10, b11⟩ := HY.out
            go_wp2_with fail
            refine (eqVerts_any _ _ _ _ _ _ a.verts b.verts _ rfl rfl (HA.out.below HB.out).hv (HC.out.below HB.out).hv FA.out.hv FB.out.hv).mono ?_
            rintro e w4 ⟨rfl, hb⟩
            replace HB : Hid (Below w.heap.size w w4) := below_more HB.out hb HB.out.size
            replace HX : Hid (Box w4 w.heap.size s a) := HX.out.below hb HX.out.lt
            replace HY : Hid (Box w4 (w.heap.size + 1) t b) := HY.out.below hb HY.out.lt
            clear hb c0 c1 c2 c3 c4 c5 c6 c7 c8 c9 c10 c11 b0 b1 b2 b3 b4 b5 b6 b7 b8 b9 b10 b11
            cases d5 : eqVertsB a.verts b.verts with
            | false =>
              go_wp2
              go_ret
              exact ⟨ret_bool (by rw [HE.out, d0, d1, d2, d3, d4, d5]; simp), HB.out⟩
            | true =>
              obtain ⟨c0, c1, c2, c3, c4, c5, c6, c7, c8, c9, c10, c11⟩ := HX.out
              obtain ⟨b0, b1, b2, b3, b4, b5, b6, b7, b8, b9, b10, b11⟩ := HY.out
              go_wp2
              go_ret
              exact ⟨ret_bool (by rw [HE.out, d0, d1, d2, d3, d4, d5]; simp), HB.out⟩
end Go.Proofs.YtoanjhccbmifmaaDoor
