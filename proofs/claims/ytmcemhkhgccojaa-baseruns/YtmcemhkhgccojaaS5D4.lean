/- Whether two advertisements have one body, or are one, as the document says it. -/
import Derived.Test.YtmcemhkhgccojaaS5D3

namespace Go.Proofs.Ytmcemhkhgccojaa
open Go.RowKit
set_option linter.unusedVariables false

theorem bne_t {x y : Int} (h : (x == y) = false) : (x != y) = true := by rw [bne, h]; rfl
theorem bne_f {x y : Int} (h : (x == y) = true) : (x != y) = false := by rw [bne, h]; rfl
set_option maxHeartbeats 3200000 in
theorem dBody_any (s t : Seats) (a b : LsaZ) (w : World) (ha : Held w s a) (hb : Held w t b) (fa : Fits a) (fb : Fits b) :
    Calls Try.prog 40 #[.agg (lsaA s a), .agg (lsaA t b)] w fun e w' => e = .returned (.bool (bodyB a b)) ∧ Below w.heap.size w w' := by
  have HE : Hid (bodyB a b = ((a.head.kind == b.head.kind) && (a.flags == b.flags) && eqLinksB a.links b.links && (a.bits == b.bits) && decide (a.routers = b.routers) && eqVertsB a.verts b.verts)) := rfl
  have HA : Hid (Held w s a) := ha
  have HC : Hid (Held w t b) := hb
  have FA : Hid (Fits a) := fa
  have FB : Hid (Fits b) := fb
  have HX : Hid (Box ((w.alloc (.cells (lsaA s a) 39)).alloc (.cells (lsaA t b) 39)) w.heap.size s a) := (box_new w s a).below ((Below.refl _ _).alloc (Nat.le_refl _) _) (by simp)
  have HY : Hid (Box ((w.alloc (.cells (lsaA s a) 39)).alloc (.cells (lsaA t b) 39)) (w.heap.size + 1) t b) := by
    have := box_new (w.alloc (.cells (lsaA s a) 39)) t b
    rw [size_new] at this; exact this
  have HB : Hid (Below w.heap.size w ((w.alloc (.cells (lsaA s a) 39)).alloc (.cells (lsaA t b) 39))) := (below_new' _ _).alloc (by simp) _
  have HLN : Hid (((a.links.length : Int) == (b.links.length : Int)) = false → eqLinksB a.links b.links = false) := fun h => eqLinksB_f (by rintro e; rw [e] at h; simp at h)
  have HLL : Hid (((a.links.length : Int) == (b.links.length : Int)) = true → a.links.length = b.links.length) := fun h => by have := beq_iff_eq.1 h; omega
  clear ha hb fa fb
  generalize bodyB a b = R at *
  go_enter Try.func40, Try.ntmps40
  go_upto_region 1 with fail
  generalize (w.alloc (.cells (lsaA s a) 39)).alloc (.cells (lsaA t b) 39) = W at *
  obtain ⟨c0, c1, c2, c3, c4, c5, c6, c7, c8, c9, c10, c11⟩ := HX.out
  obtain ⟨b0, b1, b2, b3, b4, b5, b6, b7, b8, b9, b10, b11⟩ := HY.out
  cases d0 : (a.head.kind == b.head.kind) with
  | false =>
    have nd0 := bne_t d0
    go_wp2
    go_ret
    exact ⟨ret_bool (by rw [HE.out, d0]; simp), HB.out⟩
  | true =>
    have nd0 := bne_f d0
    cases d1 : (a.flags == b.flags) with
    | false =>
      have nd1 := bne_t d1
      go_wp2
      go_ret
      exact ⟨ret_bool (by rw [HE.out, d0, d1]; simp), HB.out⟩
    | true =>
      have nd1 := bne_f d1
      cases dl : ((a.links.length : Int) == (b.links.length : Int)) with
      | false =>
        have ndl := bne_t dl
        go_wp2
        go_ret
        exact ⟨ret_bool (by rw [HE.out, d0, d1, HLN.out dl]; simp), HB.out⟩
      | true =>
        have ndl := bne_f dl
        cases d3 : (a.bits == b.bits) with
        | false =>
          have nd3 := bne_t d3
          go_wp2
          go_ret
          exact ⟨ret_bool (by rw [HE.out, d3]; simp), HB.out⟩
        | true =>
          have nd3 := bne_f d3
          go_wp2_with fail
          refine (dInts_any _ _ _ _ _ _ a.routers b.routers _ rfl rfl (HA.out.below HB.out).hr (HC.out.below HB.out).hr FA.out.hr FB.out.hr).mono ?_
          rintro e w2 ⟨rfl, hb⟩
          replace HB : Hid (Below w.heap.size w w2) := below_more HB.out hb HB.out.size
          replace HX : Hid (Box w2 w.heap.size s a) := HX.out.below hb HX.out.lt
          replace HY : Hid (Box w2 (w.heap.size + 1) t b) := HY.out.below hb HY.out.lt
          clear hb c0 c1 c2 c3 c4 c5 c6 c7 c8 c9 c10 c11 b0 b1 b2 b3 b4 b5 b6 b7 b8 b9 b10 b11
          obtain ⟨c0, c1, c2, c3, c4, c5, c6, c7, c8, c9, c10, c11⟩ := HX.out
          obtain ⟨b0, b1, b2, b3, b4, b5, b6, b7, b8, b9, b10, b11⟩ := HY.out
          cases d4 : decide (a.routers = b.routers) with
          | false =>
            go_wp2
            go_ret
            exact ⟨ret_bool (by rw [HE.out, d4]; simp), HB.out⟩
          | true =>
            go_wp2_with fail
            refine (dVerts_any _ _ _ _ _ _ a.verts b.verts _ rfl rfl (HA.out.below HB.out).hv (HC.out.below HB.out).hv FA.out.hv FB.out.hv).mono ?_
            rintro e w3 ⟨rfl, hb⟩
            replace HB : Hid (Below w.heap.size w w3) := below_more HB.out hb HB.out.size
            replace HX : Hid (Box w3 w.heap.size s a) := HX.out.below hb HX.out.lt
            replace HY : Hid (Box w3 (w.heap.size + 1) t b) := HY.out.below hb HY.out.lt
            clear hb c0 c1 c2 c3 c4 c5 c6 c7 c8 c9 c10 c11 b0 b1 b2 b3 b4 b5 b6 b7 b8 b9 b10 b11
            obtain ⟨c0, c1, c2, c3, c4, c5, c6, c7, c8, c9, c10, c11⟩ := HX.out
            obtain ⟨b0, b1, b2, b3, b4, b5, b6, b7, b8, b9, b10, b11⟩ := HY.out
            cases d5 : eqVertsB a.verts b.verts with
            | false =>
              go_wp2
              go_ret
              exact ⟨ret_bool (by rw [HE.out, d5]; simp), HB.out⟩
            | true =>
              have HLE : Hid (a.links.length = b.links.length) := HLL.out dl
              have HW : Hid (Below w.heap.size w w3) := HB.out
              have hbound := FA.out.hl
              clear c0 c1 c2 c3 c4 c5 c6 c7 c8 c9 c10 c11 b0 b1 b2 b3 b4 b5 b6 b7 b8 b9 b10 b11 HB
              obtain ⟨c0, c1, c2, c3, c4, c5, c6, c7, c8, c9, c10, c11⟩ := HX.out
              go_wp2_with fail
              clear c0 c1 c2 c3 c4 c5 c6 c7 c8 c9 c10 c11
              go_loopw [5] (fun v wr => ∃ k : Nat, k ≤ a.links.length ∧ v = .int .i64 k ∧ Hid (a.links.take k = b.links.take k) ∧ Hid (Below w3.heap.size w3 wr)) (fun v _ => a.links.length - (intOf v).toNat)
              case atStart => exact ⟨0, by omega, rfl, rfl, Below.refl _ _⟩
              case round =>
                obtain ⟨k, hk, rfl, H, HR⟩ := hrel
                obtain ⟨c0, c1, c2, c3, c4, c5, c6, c7, c8, c9, c10, c11⟩ := HX.out.below HR.out HX.out.lt
                obtain ⟨b0, b1, b2, b3, b4, b5, b6, b7, b8, b9, b10, b11⟩ := HY.out.below HR.out HY.out.lt
                have HWR : Hid (Below w.heap.size w wr) := below_more HW.out HR.out HW.out.size
                by_cases hlt : k < a.links.length
                · have hlt2 : k < b.links.length := by rw [← HLE.out]; exact hlt
                  obtain ⟨xb, xo, hxa, x0, x1, x2, x3⟩ := Links.cells (HA.out.below HWR.out).hl k hlt
                  obtain ⟨yb, yo, hya, y0, y1, y2, y3⟩ := Links.cells (HC.out.below HWR.out).hl k hlt2
                  rw [hxa] at c8
                  rw [hya] at b8
                  have HV : Hid (Below w3.heap.size w3 wr.drew) := HR.out.drew
                  have HWV : Hid (Below w.heap.size w wr.drew) := HWR.out.drew
                  have HNE : Hid (a.links[k] ≠ b.links[k] → a.links ≠ b.links) := fun h => ne_at hlt hlt2 h
                  have HEQ : Hid (a.links[k] = b.links[k] → a.links.take (k + 1) = b.links.take (k + 1)) := fun h => take_eq_succ a.links b.links k hlt hlt2 H.out h
                  clear hxa hya
                  cases e0 : (a.links[k].kind == b.links[k].kind) with
                  | false =>
                    have HF : Hid (eqLinksB a.links b.links = false) := eqLinksB_f (HNE.out fun e => by rw [e] at e0; simp at e0)
                    go_wp2_with fail
                    go_region
                    go_wp2
                    go_ret
                    exact ⟨ret_bool (by rw [HE.out, d0, d1, HF.out]; simp), HWV.out⟩
                  | true =>
                    cases e1 : (a.links[k].id == b.links[k].id) with
                    | false =>
                      have HF : Hid (eqLinksB a.links b.links = false) := eqLinksB_f (HNE.out fun e => by rw [e] at e1; simp at e1)
                      go_wp2_with fail
                      go_region
                      go_wp2
                      go_ret
                      exact ⟨ret_bool (by rw [HE.out, d0, d1, HF.out]; simp), HWV.out⟩
                    | true =>
                      cases e2 : (a.links[k].data == b.links[k].data) with
                      | false =>
                        have HF : Hid (eqLinksB a.links b.links = false) := eqLinksB_f (HNE.out fun e => by rw [e] at e2; simp at e2)
                        go_wp2_with fail
                        go_region
                        go_wp2
                        go_ret
                        exact ⟨ret_bool (by rw [HE.out, d0, d1, HF.out]; simp), HWV.out⟩
                      | true =>
                        cases e3 : (a.links[k].cost == b.links[k].cost) with
                        | false =>
                          have HF : Hid (eqLinksB a.links b.links = false) := eqLinksB_f (HNE.out fun e => by rw [e] at e3; simp at e3)
                          go_wp2_with fail
                          go_region
                          go_wp2
                          go_ret
                          exact ⟨ret_bool (by rw [HE.out, d0, d1, HF.out]; simp), HWV.out⟩
                        | true =>
                          have b20 := bne_f e0
                          have b21 := bne_f e1
                          have b22 := bne_f e2
                          have b23 := bne_f e3
                          have HT : Hid (a.links.take (k + 1) = b.links.take (k + 1)) := HEQ.out (LinkZ.same (by simpa using e0) (by simpa using e1) (by simpa using e2) (by simpa using e3))
                          go_wp2_with fail
                          go_region
                          go_wp2
                          go_roundw
                          case rel => exact ⟨k + 1, by omega, by go_num, HT.out, HV.out⟩
                          case measure => simp [intOf]; omega
                · have he : eqLinksB a.links b.links = true := eqLinksB_t (eq_end HLE.out (by omega) H.out)
                  have HT : Hid (R = true) := by show _ = _; rw [HE.out, d0, d1, he, d3, d4, d5]; rfl
                  clear he
                  go_wp2
                  go_ret
                  exact ⟨ret_bool HT.out.symm, HWR.out⟩
end Go.Proofs.Ytmcemhkhgccojaa
