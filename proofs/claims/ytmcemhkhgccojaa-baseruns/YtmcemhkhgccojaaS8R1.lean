/- Acts: whether they are more than is played; the advertisement of one. -/
import Derived.Test.YtmcemhkhgccojaaAFr
import Derived.Test.YtmcemhkhgccojaaD8A
import Derived.Test.YtmcemhkhgccojaaS5D6
namespace Go.Proofs.Ytmcemhkhgccojaa
open Go.RowKit
set_option linter.unusedVariables false

structure ActAt (w : World) (b o : Nat) (z : ActZ) : Prop where
  c0 : w.cell? ⟨b, o, none⟩ = some (.int .i64 z.act)
  c1 : w.cell? ⟨b, o + 1, none⟩ = some (.int .i64 z.row.2.head.age)
  c2 : w.cell? ⟨b, o + 2, none⟩ = some (.int .i64 z.row.2.head.kind)
  c3 : w.cell? ⟨b, o + 3, none⟩ = some (.int .i64 z.row.2.head.id)
  c4 : w.cell? ⟨b, o + 4, none⟩ = some (.int .i64 z.row.2.head.adv)
  c5 : w.cell? ⟨b, o + 5, none⟩ = some (.int .i64 z.row.2.head.seq)
  c6 : w.cell? ⟨b, o + 6, none⟩ = some (.int .i64 z.row.2.head.sum)
  c7 : w.cell? ⟨b, o + 7, none⟩ = some (.int .i64 z.row.2.head.len)
  c8 : w.cell? ⟨b, o + 8, none⟩ = some (.int .i64 z.row.2.flags)
  c9 : w.cell? ⟨b, o + 9, none⟩ = some (.slice z.row.1.la z.row.2.links.length z.row.1.lc)
  c10 : w.cell? ⟨b, o + 10, none⟩ = some (.int .i64 z.row.2.bits)
  c11 : w.cell? ⟨b, o + 11, none⟩ = some (.slice z.row.1.ra z.row.2.routers.length z.row.1.rc)
  c12 : w.cell? ⟨b, o + 12, none⟩ = some (.slice z.row.1.va z.row.2.verts.length z.row.1.vc)
  c13 : w.cell? ⟨b, o + 13, none⟩ = some (.bool z.sealIt)
  c14 : w.cell? ⟨b, o + 14, none⟩ = some (.int .i64 z.key.kind)
  c15 : w.cell? ⟨b, o + 15, none⟩ = some (.int .i64 z.key.id)
  c16 : w.cell? ⟨b, o + 16, none⟩ = some (.int .i64 z.key.adv)
theorem acts_at {w : World} {a : Option Addr} {L : List ActZ} (h : Lies w a (cellsOf actC L)) (i : Nat) (hi : i < L.length) : ∃ b off, a = some ⟨b, off, none⟩ ∧ ActAt w b (off + i * 17) L[i] := by
  obtain ⟨b, off, e, hr⟩ := h.cell actC 17 actC_length (by rintro rfl; simp at hi) (by omega)
  have hx : ∀ j, j < 17 → w.cell? ⟨b, off + i * 17 + j, none⟩ = (actC L[i])[j]? := fun j hj => by rw [Nat.add_assoc]; exact hr i j hi hj
  exact ⟨b, off, e, hx 0 (by omega), hx 1 (by omega), hx 2 (by omega), hx 3 (by omega), hx 4 (by omega), hx 5 (by omega), hx 6 (by omega), hx 7 (by omega), hx 8 (by omega), hx 9 (by omega), hx 10 (by omega), hx 11 (by omega), hx 12 (by omega), hx 13 (by omega), hx 14 (by omega), hx 15 (by omega), hx 16 (by omega)⟩
theorem ActAt.lt {w : World} {b o : Nat} {z : ActZ} (h : ActAt w b o z) : b < w.heap.size := by
  rcases Nat.lt_or_ge b w.heap.size with h' | h'
  · exact h'
  · have := h.c0; simp [World.cell?, Array.getElem?_eq_none h'] at this
theorem ActAt.below {w w' : World} {b o N : Nat} {z : ActZ} (h : ActAt w b o z) (hb : Below N w w') (hN : b < N) : ActAt w' b o z := by
  obtain ⟨c0, c1, c2, c3, c4, c5, c6, c7, c8, c9, c10, c11, c12, c13, c14, c15, c16⟩ := h
  exact ⟨by rw [hb.cell hN]; exact c0, by rw [hb.cell hN]; exact c1, by rw [hb.cell hN]; exact c2, by rw [hb.cell hN]; exact c3, by rw [hb.cell hN]; exact c4, by rw [hb.cell hN]; exact c5, by rw [hb.cell hN]; exact c6, by rw [hb.cell hN]; exact c7, by rw [hb.cell hN]; exact c8, by rw [hb.cell hN]; exact c9, by rw [hb.cell hN]; exact c10, by rw [hb.cell hN]; exact c11, by rw [hb.cell hN]; exact c12, by rw [hb.cell hN]; exact c13, by rw [hb.cell hN]; exact c14, by rw [hb.cell hN]; exact c15, by rw [hb.cell hN]; exact c16⟩
def heavyB (L : List ActZ) : Bool := (L.take 90).any (fun z => greatB z.row.2) || decide (80 < L.length)
theorem heavy_no {L : List ActZ} (h : heavyB L = false) : L.length ≤ 80 ∧ ∀ z ∈ L, greatB z.row.2 = false := by
  unfold heavyB at h
  simp only [Bool.or_eq_false_iff, decide_eq_false_iff_not, List.any_eq_false] at h
  have hl : L.length ≤ 80 := by omega
  refine ⟨hl, fun z hz => ?_⟩
  have := h.1 z (by rw [List.take_of_length_le (by omega)]; exact hz)
  simpa using this
set_option maxHeartbeats 3200000 in
theorem heavy_any (a : Option Addr) (cap : Nat) (L : List ActZ) (w : World) (h : Lies w a (cellsOf actC L)) (hm : L.length ≤ 9223372036854775807) :
    Calls Try.prog 5 #[.slice a L.length cap] w fun e w' => e = .returned (.bool (heavyB L)) ∧ Below w.heap.size w w' := by
  have HL : Hid (Lies w a (cellsOf actC L)) := h
  clear h
  go_enter Try.func5, Try.ntmps5
  go_wp2_with fail
  go_loopw [3] (fun t wr => ∃ i : Nat, i ≤ L.length ∧ i ≤ 90 ∧ t = .int .i64 (i : Int) ∧ Hid ((L.take i).any (fun z => greatB z.row.2) = false) ∧ Hid (Below w.heap.size w wr)) (fun t _ => L.length - (intOf t).toNat)
  case atStart => exact ⟨0, by omega, by omega, rfl, rfl, Below.refl _ _⟩
  case round =>
    obtain ⟨i, hi, hi9, rfl, HN, HB⟩ := hrel
    by_cases hlt : i < L.length
    · have hiI : (i : Int) < (L.length : Int) := by omega
      by_cases h9 : i < 90
      · have h9I : (i : Int) < 90 := by omega
        obtain ⟨g, o, rfl, hat⟩ := acts_at HL.out i hlt
        obtain ⟨z, hz⟩ : ∃ z, L[i] = z := ⟨_, rfl⟩
        have HZ : Hid (L[i] = z) := hz
        rw [hz] at hat
        obtain ⟨c0, c1, c2, c3, c4, c5, c6, c7, c8, c9, c10, c11, c12, c13, c14, c15, c16⟩ := hat.below HB.out hat.lt
        clear hat hz
        have CG := great_any z.row.1 z.row.2 wr
        cases hg : greatB z.row.2 with
        | true =>
          rw [hg] at CG
          have HE : Hid (heavyB L = true) := by
            show _ = _
            unfold heavyB
            rw [Bool.or_eq_true]
            left
            rw [List.any_eq_true]
            exact ⟨z, by rw [← HZ.out]; exact List.mem_take_iff_getElem.2 ⟨i, by omega, rfl⟩, hg⟩
          go_wp2_with fail
          refine CG.mono ?_
          rintro e w2 ⟨rfl, hb⟩
          have HB2 : Hid (Below w.heap.size w w2) := below_more HB.out hb HB.out.size
          clear hb CG c0 c1 c2 c3 c4 c5 c6 c7 c8 c9 c10 c11 c12 c13 c14 c15 c16
          go_wp2
          go_ret
          exact ⟨by rw [HE.out]; rfl, HB2.out⟩
        | false =>
          rw [hg] at CG
          have HN2 : Hid ((L.take (i + 1)).any (fun z => greatB z.row.2) = false) := by
            show _ = _
            rw [← List.take_append_getElem hlt, List.any_append, HN.out, HZ.out]
            simp [hg]
          go_wp2_with fail
          refine CG.mono ?_
          rintro e w2 ⟨rfl, hb⟩
          have HB2 : Hid (Below w.heap.size w w2) := below_more HB.out hb HB.out.size
          clear hb CG c0 c1 c2 c3 c4 c5 c6 c7 c8 c9 c10 c11 c12 c13 c14 c15 c16 HN HB
          go_wp2
          go_roundw
          case rel => exact ⟨i + 1, by omega, by omega, by go_num, HN2, HB2⟩
          case measure => simp [intOf]; omega
      · have h9I : ¬ (i : Int) < 90 := by omega
        have h80 : (80 : Int) < (L.length : Int) := by omega
        have HE : Hid (heavyB L = true) := by
          show _ = _
          unfold heavyB
          rw [Bool.or_eq_true]
          right; simp; omega
        go_wp2
        go_ret
        exact ⟨by rw [HE.out]; rfl, HB.out⟩
    · obtain rfl : i = L.length := by omega
      have hnl : ¬ ((L.length : Int) < (L.length : Int)) := by omega
      have HE : Hid (heavyB L = decide (80 < (L.length : Int))) := by
        have h := HN.out
        rw [List.take_length] at h
        show _ = _
        unfold heavyB
        rw [List.take_of_length_le (by omega), h, Bool.false_or]
        exact decide_eq_decide.2 ⟨fun h => by omega, fun h => by omega⟩
      go_wp2
      go_ret
      exact ⟨by rw [HE.out]; rfl, HB.out⟩
def actL (z : ActZ) : LsaZ := if z.sealIt = true then sealL z.row.2 else z.row.2
/-- How lsa ends. -/
def LsaEnd (w : World) (z : ActZ) (e : Ending) (w' : World) : Prop := ∃ s', e = .returned (.agg (lsaA s' (actL z))) ∧ Held w' s' (actL z) ∧ Nils s' ∧ Below w.heap.size w w' ∧ ∀ k, k < w.heap.size → Off k z.row → Off k (s', actL z)
theorem turned_put12 (w : World) (b : Nat) (v0 v1 v2 v3 v4 v5 v6 v7 v8 v9 v10 v11 : Value) : Turned b none w ((((((((((((w.setCell ⟨b, 0, none⟩ v0).setCell ⟨b, 1, none⟩ v1).setCell ⟨b, 2, none⟩ v2).setCell ⟨b, 3, none⟩ v3).setCell ⟨b, 4, none⟩ v4).setCell ⟨b, 5, none⟩ v5).setCell ⟨b, 6, none⟩ v6).setCell ⟨b, 7, none⟩ v7).setCell ⟨b, 8, none⟩ v8).setCell ⟨b, 9, none⟩ v9).setCell ⟨b, 10, none⟩ v10).setCell ⟨b, 11, none⟩ v11) :=
  (((((((((((Turned.set b none w ⟨b, 0, none⟩ v0 (.inl rfl)).trans (Turned.set b none _ ⟨b, 1, none⟩ v1 (.inl rfl))).trans (Turned.set b none _ ⟨b, 2, none⟩ v2 (.inl rfl))).trans (Turned.set b none _ ⟨b, 3, none⟩ v3 (.inl rfl))).trans (Turned.set b none _ ⟨b, 4, none⟩ v4 (.inl rfl))).trans (Turned.set b none _ ⟨b, 5, none⟩ v5 (.inl rfl))).trans (Turned.set b none _ ⟨b, 6, none⟩ v6 (.inl rfl))).trans (Turned.set b none _ ⟨b, 7, none⟩ v7 (.inl rfl))).trans (Turned.set b none _ ⟨b, 8, none⟩ v8 (.inl rfl))).trans (Turned.set b none _ ⟨b, 9, none⟩ v9 (.inl rfl))).trans (Turned.set b none _ ⟨b, 10, none⟩ v10 (.inl rfl))).trans (Turned.set b none _ ⟨b, 11, none⟩ v11 (.inl rfl))
set_option maxHeartbeats 6400000 in
set_option maxRecDepth 20000 in
theorem lsa_any (z : ActZ) (w : World) (hH : Held w z.row.1 z.row.2) (hN : Nils z.row.1) (hf : Mid z.row.2) :
    Calls Try.prog 11 #[.agg (actC z).toArray] w (LsaEnd w z) := by
  have HV : Hid (Var ((w.alloc (.cells (actC z).toArray 43)).alloc (.cells zero12.toArray 39)) w.heap.size (actC z)) := (var_new w (actC z) _).alloc _
  have HR : Hid (Var ((w.alloc (.cells (actC z).toArray 43)).alloc (.cells zero12.toArray 39)) (w.heap.size + 1) zero12) := by
    have := var_new (w.alloc (.cells (actC z).toArray 43)) zero12 39
    rw [size_new] at this; exact this
  have HB : Hid (Below w.heap.size w ((w.alloc (.cells (actC z).toArray 43)).alloc (.cells zero12.toArray 39))) := (below_new' _ _).alloc (by simp) _
  have HS : Hid (((w.alloc (.cells (actC z).toArray 43)).alloc (.cells zero12.toArray 39)).heap.size = w.heap.size + 2) := by show _ = _; rw [size_new, size_new]
  have HH : Hid (Held w z.row.1 z.row.2) := hH
  have HNI : Hid (Nils z.row.1 ∧ Mid z.row.2) := ⟨hN, hf⟩
  clear hH hN hf
  go_enter Try.func11, Try.ntmps11
  go_upto_region 1 with fail
  generalize ((w.alloc (.cells (actC z).toArray 43)).alloc (.cells zero12.toArray 39)) = W at *
  have x0 := HV.out.cell 0 rfl
  have x1 := HV.out.cell 1 rfl
  have x2 := HV.out.cell 2 rfl
  have x3 := HV.out.cell 3 rfl
  have x4 := HV.out.cell 4 rfl
  have x5 := HV.out.cell 5 rfl
  have x6 := HV.out.cell 6 rfl
  have x7 := HV.out.cell 7 rfl
  have x8 := HV.out.cell 8 rfl
  have x9 := HV.out.cell 9 rfl
  have x10 := HV.out.cell 10 rfl
  have x11 := HV.out.cell 11 rfl
  have x12 := HV.out.cell 12 rfl
  have x13 := HV.out.cell 13 rfl
  have x14 := HV.out.cell 14 rfl
  have x15 := HV.out.cell 15 rfl
  have x16 := HV.out.cell 16 rfl
  cases hse : z.sealIt with
  | false =>
    rw [hse] at x13
    have HAL : Hid (actL z = z.row.2) := by show _ = _; unfold actL; rw [hse]; rfl
    obtain ⟨r, hr⟩ : ∃ r, z.row = r := ⟨_, rfl⟩
    have HZR : Hid (z.row = r) := hr
    rw [hr] at x1 x2 x3 x4 x5 x6 x7 x8 x9 x10 x11 x12 HH HNI
    clear hr
    have K1 : Hid (Var ((((((((((((W.setCell ⟨w.heap.size + 1, 0, none⟩ (.int .i64 r.2.head.age)).setCell ⟨w.heap.size + 1, 1, none⟩ (.int .i64 r.2.head.kind)).setCell ⟨w.heap.size + 1, 2, none⟩ (.int .i64 r.2.head.id)).setCell ⟨w.heap.size + 1, 3, none⟩ (.int .i64 r.2.head.adv)).setCell ⟨w.heap.size + 1, 4, none⟩ (.int .i64 r.2.head.seq)).setCell ⟨w.heap.size + 1, 5, none⟩ (.int .i64 r.2.head.sum)).setCell ⟨w.heap.size + 1, 6, none⟩ (.int .i64 r.2.head.len)).setCell ⟨w.heap.size + 1, 7, none⟩ (.int .i64 r.2.flags)).setCell ⟨w.heap.size + 1, 8, none⟩ (.slice r.1.la r.2.links.length r.1.lc)).setCell ⟨w.heap.size + 1, 9, none⟩ (.int .i64 r.2.bits)).setCell ⟨w.heap.size + 1, 10, none⟩ (.slice r.1.ra r.2.routers.length r.1.rc)).setCell ⟨w.heap.size + 1, 11, none⟩ (.slice r.1.va r.2.verts.length r.1.vc)) (w.heap.size + 1) [(.int .i64 r.2.head.age), (.int .i64 r.2.head.kind), (.int .i64 r.2.head.id), (.int .i64 r.2.head.adv), (.int .i64 r.2.head.seq), (.int .i64 r.2.head.sum), (.int .i64 r.2.head.len), (.int .i64 r.2.flags), (.slice r.1.la r.2.links.length r.1.lc), (.int .i64 r.2.bits), (.slice r.1.ra r.2.routers.length r.1.rc), (.slice r.1.va r.2.verts.length r.1.vc)]) := HR.out.put12 (.int .i64 r.2.head.age) (.int .i64 r.2.head.kind) (.int .i64 r.2.head.id) (.int .i64 r.2.head.adv) (.int .i64 r.2.head.seq) (.int .i64 r.2.head.sum) (.int .i64 r.2.head.len) (.int .i64 r.2.flags) (.slice r.1.la r.2.links.length r.1.lc) (.int .i64 r.2.bits) (.slice r.1.ra r.2.routers.length r.1.rc) (.slice r.1.va r.2.verts.length r.1.vc)
    have K2 : Hid (Below w.heap.size w ((((((((((((W.setCell ⟨w.heap.size + 1, 0, none⟩ (.int .i64 r.2.head.age)).setCell ⟨w.heap.size + 1, 1, none⟩ (.int .i64 r.2.head.kind)).setCell ⟨w.heap.size + 1, 2, none⟩ (.int .i64 r.2.head.id)).setCell ⟨w.heap.size + 1, 3, none⟩ (.int .i64 r.2.head.adv)).setCell ⟨w.heap.size + 1, 4, none⟩ (.int .i64 r.2.head.seq)).setCell ⟨w.heap.size + 1, 5, none⟩ (.int .i64 r.2.head.sum)).setCell ⟨w.heap.size + 1, 6, none⟩ (.int .i64 r.2.head.len)).setCell ⟨w.heap.size + 1, 7, none⟩ (.int .i64 r.2.flags)).setCell ⟨w.heap.size + 1, 8, none⟩ (.slice r.1.la r.2.links.length r.1.lc)).setCell ⟨w.heap.size + 1, 9, none⟩ (.int .i64 r.2.bits)).setCell ⟨w.heap.size + 1, 10, none⟩ (.slice r.1.ra r.2.routers.length r.1.rc)).setCell ⟨w.heap.size + 1, 11, none⟩ (.slice r.1.va r.2.verts.length r.1.vc))) := below_put12 HB.out (by omega) (.int .i64 r.2.head.age) (.int .i64 r.2.head.kind) (.int .i64 r.2.head.id) (.int .i64 r.2.head.adv) (.int .i64 r.2.head.seq) (.int .i64 r.2.head.sum) (.int .i64 r.2.head.len) (.int .i64 r.2.flags) (.slice r.1.la r.2.links.length r.1.lc) (.int .i64 r.2.bits) (.slice r.1.ra r.2.routers.length r.1.rc) (.slice r.1.va r.2.verts.length r.1.vc)
    have K3 : Hid (Turned (w.heap.size + 1) none W ((((((((((((W.setCell ⟨w.heap.size + 1, 0, none⟩ (.int .i64 r.2.head.age)).setCell ⟨w.heap.size + 1, 1, none⟩ (.int .i64 r.2.head.kind)).setCell ⟨w.heap.size + 1, 2, none⟩ (.int .i64 r.2.head.id)).setCell ⟨w.heap.size + 1, 3, none⟩ (.int .i64 r.2.head.adv)).setCell ⟨w.heap.size + 1, 4, none⟩ (.int .i64 r.2.head.seq)).setCell ⟨w.heap.size + 1, 5, none⟩ (.int .i64 r.2.head.sum)).setCell ⟨w.heap.size + 1, 6, none⟩ (.int .i64 r.2.head.len)).setCell ⟨w.heap.size + 1, 7, none⟩ (.int .i64 r.2.flags)).setCell ⟨w.heap.size + 1, 8, none⟩ (.slice r.1.la r.2.links.length r.1.lc)).setCell ⟨w.heap.size + 1, 9, none⟩ (.int .i64 r.2.bits)).setCell ⟨w.heap.size + 1, 10, none⟩ (.slice r.1.ra r.2.routers.length r.1.rc)).setCell ⟨w.heap.size + 1, 11, none⟩ (.slice r.1.va r.2.verts.length r.1.vc))) := turned_put12 W (w.heap.size + 1) (.int .i64 r.2.head.age) (.int .i64 r.2.head.kind) (.int .i64 r.2.head.id) (.int .i64 r.2.head.adv) (.int .i64 r.2.head.seq) (.int .i64 r.2.head.sum) (.int .i64 r.2.head.len) (.int .i64 r.2.flags) (.slice r.1.la r.2.links.length r.1.lc) (.int .i64 r.2.bits) (.slice r.1.ra r.2.routers.length r.1.rc) (.slice r.1.va r.2.verts.length r.1.vc)
    have r0 := HR.out.cell 0 rfl
    have q0 := HR.out.frozen 0
    have r1 := HR.out.cell 1 rfl
    have q1 := HR.out.frozen 1
    have r2 := HR.out.cell 2 rfl
    have q2 := HR.out.frozen 2
    have r3 := HR.out.cell 3 rfl
    have q3 := HR.out.frozen 3
    have r4 := HR.out.cell 4 rfl
    have q4 := HR.out.frozen 4
    have r5 := HR.out.cell 5 rfl
    have q5 := HR.out.frozen 5
    have r6 := HR.out.cell 6 rfl
    have q6 := HR.out.frozen 6
    have r7 := HR.out.cell 7 rfl
    have q7 := HR.out.frozen 7
    have r8 := HR.out.cell 8 rfl
    have q8 := HR.out.frozen 8
    have r9 := HR.out.cell 9 rfl
    have q9 := HR.out.frozen 9
    have r10 := HR.out.cell 10 rfl
    have q10 := HR.out.frozen 10
    have r11 := HR.out.cell 11 rfl
    have q11 := HR.out.frozen 11
    go_wp2
    clear x0 x1 x2 x3 x4 x5 x6 x7 x8 x9 x10 x11 x12 x13 x14 x15 x16
    clear r0 q0 r1 q1 r2 q2 r3 q3 r4 q4 r5 q5 r6 q6 r7 q7 r8 q8 r9 q9 r10 q10 r11 q11
    generalize ((((((((((((W.setCell ⟨w.heap.size + 1, 0, none⟩ (.int .i64 r.2.head.age)).setCell ⟨w.heap.size + 1, 1, none⟩ (.int .i64 r.2.head.kind)).setCell ⟨w.heap.size + 1, 2, none⟩ (.int .i64 r.2.head.id)).setCell ⟨w.heap.size + 1, 3, none⟩ (.int .i64 r.2.head.adv)).setCell ⟨w.heap.size + 1, 4, none⟩ (.int .i64 r.2.head.seq)).setCell ⟨w.heap.size + 1, 5, none⟩ (.int .i64 r.2.head.sum)).setCell ⟨w.heap.size + 1, 6, none⟩ (.int .i64 r.2.head.len)).setCell ⟨w.heap.size + 1, 7, none⟩ (.int .i64 r.2.flags)).setCell ⟨w.heap.size + 1, 8, none⟩ (.slice r.1.la r.2.links.length r.1.lc)).setCell ⟨w.heap.size + 1, 9, none⟩ (.int .i64 r.2.bits)).setCell ⟨w.heap.size + 1, 10, none⟩ (.slice r.1.ra r.2.routers.length r.1.rc)).setCell ⟨w.heap.size + 1, 11, none⟩ (.slice r.1.va r.2.verts.length r.1.vc)) = Z at *
    have c0 := K1.out.cell 0 rfl
    have c1 := K1.out.cell 1 rfl
    have c2 := K1.out.cell 2 rfl
    have c3 := K1.out.cell 3 rfl
    have c4 := K1.out.cell 4 rfl
    have c5 := K1.out.cell 5 rfl
    have c6 := K1.out.cell 6 rfl
    have c7 := K1.out.cell 7 rfl
    have c8 := K1.out.cell 8 rfl
    have c9 := K1.out.cell 9 rfl
    have c10 := K1.out.cell 10 rfl
    have c11 := K1.out.cell 11 rfl
    refine bodyPost_ret (by simp [results, Try.results11, go_sem, c0, c1, c2, c3, c4, c5, c6, c7, c8, c9, c10, c11]; try rfl) rfl ?_
    refine ⟨r.1, by rw [HAL.out, HZR.out], ?_, HNI.out.1, K2.out, fun k hk ho => ?_⟩
    · rw [HAL.out, HZR.out]
      exact (HH.out.below HB.out).turned (r := r) K3.out (off_old HH.out (by omega)) (fun k hk => by cases hk)
    · rw [HAL.out, HZR.out]
      rw [HZR.out] at ho
      exact ho
  | true =>
    rw [hse] at x13
    have HAL : Hid (actL z = sealL z.row.2) := by show _ = _; unfold actL; rw [hse]; rfl
    obtain ⟨r, hr⟩ : ∃ r, z.row = r := ⟨_, rfl⟩
    have HZR : Hid (z.row = r) := hr
    rw [hr] at x1 x2 x3 x4 x5 x6 x7 x8 x9 x10 x11 x12 HH HNI
    clear hr
    have CS := dSealF_any r.1 r.2 W (HH.out.below HB.out) HNI.out.2 HNI.out.1
    obtain ⟨q, hq⟩ : ∃ q, sealL r.2 = q := ⟨_, rfl⟩
    have HQ : Hid (sealL r.2 = q) := hq
    rw [hq] at CS
    clear hq
    go_wp2_with fail
    refine CS.mono ?_
    rintro e w3 ⟨s1, rfl, hh, hn, hb, f1, f2, f3⟩
    replace HR : Hid (Var w3 (w.heap.size + 1) zero12) := HR.out.below hb HR.out.lt
    replace HB : Hid (Below w.heap.size w w3) := below_more HB.out hb HB.out.size
    have HH3 : Hid (Held w3 s1 q ∧ Nils s1) := ⟨hh, hn⟩
    have HFA : Hid (∀ k, k < w.heap.size + 2 → Off k (s1, q)) := fun k hk => off_far (r := (s1, q)) f1 f2 f3 (by rw [HS.out]; exact hk)
    clear hh hn hb f1 f2 f3 CS x0 x1 x2 x3 x4 x5 x6 x7 x8 x9 x10 x11 x12 x13 x14 x15 x16
    have K1 : Hid (Var ((((((((((((w3.setCell ⟨w.heap.size + 1, 0, none⟩ (.int .i64 q.head.age)).setCell ⟨w.heap.size + 1, 1, none⟩ (.int .i64 q.head.kind)).setCell ⟨w.heap.size + 1, 2, none⟩ (.int .i64 q.head.id)).setCell ⟨w.heap.size + 1, 3, none⟩ (.int .i64 q.head.adv)).setCell ⟨w.heap.size + 1, 4, none⟩ (.int .i64 q.head.seq)).setCell ⟨w.heap.size + 1, 5, none⟩ (.int .i64 q.head.sum)).setCell ⟨w.heap.size + 1, 6, none⟩ (.int .i64 q.head.len)).setCell ⟨w.heap.size + 1, 7, none⟩ (.int .i64 q.flags)).setCell ⟨w.heap.size + 1, 8, none⟩ (.slice s1.la q.links.length s1.lc)).setCell ⟨w.heap.size + 1, 9, none⟩ (.int .i64 q.bits)).setCell ⟨w.heap.size + 1, 10, none⟩ (.slice s1.ra q.routers.length s1.rc)).setCell ⟨w.heap.size + 1, 11, none⟩ (.slice s1.va q.verts.length s1.vc)) (w.heap.size + 1) [(.int .i64 q.head.age), (.int .i64 q.head.kind), (.int .i64 q.head.id), (.int .i64 q.head.adv), (.int .i64 q.head.seq), (.int .i64 q.head.sum), (.int .i64 q.head.len), (.int .i64 q.flags), (.slice s1.la q.links.length s1.lc), (.int .i64 q.bits), (.slice s1.ra q.routers.length s1.rc), (.slice s1.va q.verts.length s1.vc)]) := HR.out.put12 (.int .i64 q.head.age) (.int .i64 q.head.kind) (.int .i64 q.head.id) (.int .i64 q.head.adv) (.int .i64 q.head.seq) (.int .i64 q.head.sum) (.int .i64 q.head.len) (.int .i64 q.flags) (.slice s1.la q.links.length s1.lc) (.int .i64 q.bits) (.slice s1.ra q.routers.length s1.rc) (.slice s1.va q.verts.length s1.vc)
    have K2 : Hid (Below w.heap.size w ((((((((((((w3.setCell ⟨w.heap.size + 1, 0, none⟩ (.int .i64 q.head.age)).setCell ⟨w.heap.size + 1, 1, none⟩ (.int .i64 q.head.kind)).setCell ⟨w.heap.size + 1, 2, none⟩ (.int .i64 q.head.id)).setCell ⟨w.heap.size + 1, 3, none⟩ (.int .i64 q.head.adv)).setCell ⟨w.heap.size + 1, 4, none⟩ (.int .i64 q.head.seq)).setCell ⟨w.heap.size + 1, 5, none⟩ (.int .i64 q.head.sum)).setCell ⟨w.heap.size + 1, 6, none⟩ (.int .i64 q.head.len)).setCell ⟨w.heap.size + 1, 7, none⟩ (.int .i64 q.flags)).setCell ⟨w.heap.size + 1, 8, none⟩ (.slice s1.la q.links.length s1.lc)).setCell ⟨w.heap.size + 1, 9, none⟩ (.int .i64 q.bits)).setCell ⟨w.heap.size + 1, 10, none⟩ (.slice s1.ra q.routers.length s1.rc)).setCell ⟨w.heap.size + 1, 11, none⟩ (.slice s1.va q.verts.length s1.vc))) := below_put12 HB.out (by omega) (.int .i64 q.head.age) (.int .i64 q.head.kind) (.int .i64 q.head.id) (.int .i64 q.head.adv) (.int .i64 q.head.seq) (.int .i64 q.head.sum) (.int .i64 q.head.len) (.int .i64 q.flags) (.slice s1.la q.links.length s1.lc) (.int .i64 q.bits) (.slice s1.ra q.routers.length s1.rc) (.slice s1.va q.verts.length s1.vc)
    have K3 : Hid (Turned (w.heap.size + 1) none w3 ((((((((((((w3.setCell ⟨w.heap.size + 1, 0, none⟩ (.int .i64 q.head.age)).setCell ⟨w.heap.size + 1, 1, none⟩ (.int .i64 q.head.kind)).setCell ⟨w.heap.size + 1, 2, none⟩ (.int .i64 q.head.id)).setCell ⟨w.heap.size + 1, 3, none⟩ (.int .i64 q.head.adv)).setCell ⟨w.heap.size + 1, 4, none⟩ (.int .i64 q.head.seq)).setCell ⟨w.heap.size + 1, 5, none⟩ (.int .i64 q.head.sum)).setCell ⟨w.heap.size + 1, 6, none⟩ (.int .i64 q.head.len)).setCell ⟨w.heap.size + 1, 7, none⟩ (.int .i64 q.flags)).setCell ⟨w.heap.size + 1, 8, none⟩ (.slice s1.la q.links.length s1.lc)).setCell ⟨w.heap.size + 1, 9, none⟩ (.int .i64 q.bits)).setCell ⟨w.heap.size + 1, 10, none⟩ (.slice s1.ra q.routers.length s1.rc)).setCell ⟨w.heap.size + 1, 11, none⟩ (.slice s1.va q.verts.length s1.vc))) := turned_put12 w3 (w.heap.size + 1) (.int .i64 q.head.age) (.int .i64 q.head.kind) (.int .i64 q.head.id) (.int .i64 q.head.adv) (.int .i64 q.head.seq) (.int .i64 q.head.sum) (.int .i64 q.head.len) (.int .i64 q.flags) (.slice s1.la q.links.length s1.lc) (.int .i64 q.bits) (.slice s1.ra q.routers.length s1.rc) (.slice s1.va q.verts.length s1.vc)
    have r0 := HR.out.cell 0 rfl
    have q0 := HR.out.frozen 0
    have r1 := HR.out.cell 1 rfl
    have q1 := HR.out.frozen 1
    have r2 := HR.out.cell 2 rfl
    have q2 := HR.out.frozen 2
    have r3 := HR.out.cell 3 rfl
    have q3 := HR.out.frozen 3
    have r4 := HR.out.cell 4 rfl
    have q4 := HR.out.frozen 4
    have r5 := HR.out.cell 5 rfl
    have q5 := HR.out.frozen 5
    have r6 := HR.out.cell 6 rfl
    have q6 := HR.out.frozen 6
    have r7 := HR.out.cell 7 rfl
    have q7 := HR.out.frozen 7
    have r8 := HR.out.cell 8 rfl
    have q8 := HR.out.frozen 8
    have r9 := HR.out.cell 9 rfl
    have q9 := HR.out.frozen 9
    have r10 := HR.out.cell 10 rfl
    have q10 := HR.out.frozen 10
    have r11 := HR.out.cell 11 rfl
    have q11 := HR.out.frozen 11
    go_wp2
    clear r0 q0 r1 q1 r2 q2 r3 q3 r4 q4 r5 q5 r6 q6 r7 q7 r8 q8 r9 q9 r10 q10 r11 q11
    generalize ((((((((((((w3.setCell ⟨w.heap.size + 1, 0, none⟩ (.int .i64 q.head.age)).setCell ⟨w.heap.size + 1, 1, none⟩ (.int .i64 q.head.kind)).setCell ⟨w.heap.size + 1, 2, none⟩ (.int .i64 q.head.id)).setCell ⟨w.heap.size + 1, 3, none⟩ (.int .i64 q.head.adv)).setCell ⟨w.heap.size + 1, 4, none⟩ (.int .i64 q.head.seq)).setCell ⟨w.heap.size + 1, 5, none⟩ (.int .i64 q.head.sum)).setCell ⟨w.heap.size + 1, 6, none⟩ (.int .i64 q.head.len)).setCell ⟨w.heap.size + 1, 7, none⟩ (.int .i64 q.flags)).setCell ⟨w.heap.size + 1, 8, none⟩ (.slice s1.la q.links.length s1.lc)).setCell ⟨w.heap.size + 1, 9, none⟩ (.int .i64 q.bits)).setCell ⟨w.heap.size + 1, 10, none⟩ (.slice s1.ra q.routers.length s1.rc)).setCell ⟨w.heap.size + 1, 11, none⟩ (.slice s1.va q.verts.length s1.vc)) = Z at *
    have c0 := K1.out.cell 0 rfl
    have c1 := K1.out.cell 1 rfl
    have c2 := K1.out.cell 2 rfl
    have c3 := K1.out.cell 3 rfl
    have c4 := K1.out.cell 4 rfl
    have c5 := K1.out.cell 5 rfl
    have c6 := K1.out.cell 6 rfl
    have c7 := K1.out.cell 7 rfl
    have c8 := K1.out.cell 8 rfl
    have c9 := K1.out.cell 9 rfl
    have c10 := K1.out.cell 10 rfl
    have c11 := K1.out.cell 11 rfl
    refine bodyPost_ret (by simp [results, Try.results11, go_sem, c0, c1, c2, c3, c4, c5, c6, c7, c8, c9, c10, c11]; try rfl) rfl ?_
    refine ⟨s1, by rw [HAL.out, HZR.out, HQ.out], ?_, HH3.out.2, K2.out, fun k hk ho => ?_⟩
    · rw [HAL.out, HZR.out, HQ.out]
      exact HH3.out.1.turned (r := (s1, q)) K3.out (HFA.out _ (by omega)) (fun k hk => by cases hk)
    · rw [HAL.out, HZR.out, HQ.out]
      exact HFA.out k (by omega)
end Go.Proofs.Ytmcemhkhgccojaa
