/- All: the advertisements, each with lists of its own. -/
import Derived.Test.YtmcemhkhgccojaaX8C
namespace Go.Proofs.Ytmcemhkhgccojaa
open Go.RowKit
set_option linter.unusedVariables false

def zeroR : Row := (⟨none, 0, none, 0, none, 0⟩, ⟨⟨0, 0, 0, 0, 0, 0, 0⟩, 0, [], 0, [], []⟩)
theorem made_rows (n : Nat) : (madeCells (Value.cells (.agg #[.int .i64 0, .int .i64 0, .int .i64 0, .int .i64 0, .int .i64 0, .int .i64 0, .int .i64 0, .int .i64 0, .slice none 0 0, .int .i64 0, .slice none 0 0, .slice none 0 0])) (n * 12)).toList = cellsOf rowC (List.replicate n zeroR) := by
  apply List.ext_getElem?
  intro j
  by_cases hj : j < n * 12
  · have hd : j / 12 < (List.replicate n zeroR).length := by rw [List.length_replicate]; omega
    have hr : j % 12 < 12 := Nat.mod_lt _ (by omega)
    have e : j = j / 12 * 12 + j % 12 := by omega
    have h1 := cellsOf_at rowC 12 rowC_length (List.replicate n zeroR) (j / 12) (j % 12) hd hr
    rw [← e] at h1
    rw [h1, List.getElem_replicate]
    simp only [madeCells, Array.getElem?_toList, Array.getElem?_map, Array.getElem?_range]
    simp [hj, Value.cells]
    show some ((rowC zeroR)[j % 12]?.getD default) = (rowC zeroR)[j % 12]?
    rw [List.getElem?_eq_getElem (by rw [rowC_length]; exact hr)]; rfl
  · rw [List.getElem?_eq_none (by simp [madeCells]; omega), List.getElem?_eq_none (by rw [rows_len, List.length_replicate]; omega)]
/-- Rows that one may have: each holds its lists, in memory that is not below. -/
def Free (w0 w : World) (g : Nat) (r : Row) : Prop := Held w r.1 r.2 ∧ Nils r.1 ∧ Far w0.heap.size r.1.la ∧ Far w0.heap.size r.1.ra ∧ Far w0.heap.size r.1.va ∧ Off g r
/-- How All ends. -/
def AllEnd (w : World) (L : List Row) (e : Ending) (w' : World) : Prop := ∃ g c R, e = .returned (.slice (some ⟨g, 0, none⟩) L.length c) ∧ w.heap.size ≤ g ∧ R.length = L.length ∧ w'.ownsRow w.heap.size 39 12 (.slice (some ⟨g, 0, none⟩) L.length c) L.length (cellsOf rowC R) ∧ (∀ j (h : j < L.length) (h' : j < R.length), R[j].2 = L[j].2 ∧ Free w w' g R[j]) ∧ Below w.heap.size w w'
theorem Free.turned {w0 w w' : World} {g k : Nat} {r : Row} (h : Free w0 w g r) (ht : Turned g (some g) w w') : Free w0 w' g r :=
  ⟨h.1.turned ht h.2.2.2.2.2 (fun k e => by cases e; exact h.2.2.2.2.2), h.2⟩
theorem own_below {w w' : World} {N : Nat} {e : TypeId} {size : Nat} {v : Value} {n : Nat} {xs : List Value} (h : w.ownsRow N e size v n xs) (hb : Below w.heap.size w w') : w'.ownsRow N e size v n xs :=
  ⟨h.1, h.2.imp id fun ⟨g, cap, cur, h1, h2, h3, r⟩ => ⟨g, cap, cur, h1, h2, by rw [hb.block _ (Array.getElem?_eq_some_iff.1 h3).1]; exact h3, r⟩⟩
theorem own_row {w : World} {N g c : Nat} {R : List Row} {n : Nat} (hn : n = R.length) (h : w.ownsRow N 39 12 (.slice (some ⟨g, 0, none⟩) n c) n (cellsOf rowC R)) (i : Nat) (hi : i < R.length) : RowAt w g (i * 12) R[i] := by
  subst hn
  obtain ⟨b, off, e, hr⟩ := DB.at (owns_lies h) i hi
  cases e
  rw [Nat.zero_add] at hr
  exact hr
set_option maxHeartbeats 6400000 in
set_option maxRecDepth 20000 in
theorem all_any (N b : Nat) (most : Int) (lv : Value) (L : List Row) (w : World) (h : Keeps w N b most lv L) : Calls Try.prog 21 #[.pointer (some ⟨b, 0, none⟩)] w (AllEnd w L) := by
  obtain ⟨a, c, rfl, hL, hLc, hcm, hanil, hag⟩ := h.lies
  have hlen : L.length ≤ 1000000 := h.len
  have HK : Hid (Keeps w N b most (.slice a L.length c) L) := h
  have HL : Hid (Lies w a (cellsOf rowC L)) := hL
  have HAG : Hid (∀ x, a = some x → ∃ g, x = ⟨g, 0, none⟩) := fun x hx => by obtain ⟨g, e, -⟩ := hag x hx; exact ⟨g, e⟩
  have b1 := h.obj.cell 1 rfl
  have hlc : (L.length : Int) ≤ (c : Int) := by omega
  obtain ⟨i, hi, hz0, hz1, hz2⟩ := info_parts info_lsa
  obtain ⟨W1, hrM, ho, hg⟩ := run_make_full (P := Try.prog) w w.heap.size 53 39 i _ 12 Try.underlying53 hi hz0 hz1 .i64 .i64 L.length (by rw [hz2]; omega) (by unfold maxLen; omega) (Nat.le_refl _)
  rw [made_rows] at ho
  have HO : Hid (W1.ownsRow w.heap.size 39 12 (.slice (some ⟨w.heap.size, 0, none⟩) L.length L.length) L.length (cellsOf rowC (List.replicate L.length zeroR))) := ho
  have HB : Hid (Below w.heap.size w W1) := grown_none hg
  clear h hL hLc hcm hanil hag ho hg hi hz0 hz1 hz2 i
  go_enter Try.func21, Try.ntmps21
  go_upto_region 4 with fail
  clear hrM b1
  have b1 := (HK.out.below HB.out).obj.cell 1 rfl
  go_wp2_with fail
  clear b1
  go_loopw [19] (fun t wr => ∃ i : Nat, i ≤ L.length ∧ t = .int .i64 i ∧ Hid (∃ R : List Row, R.length = L.length ∧ wr.ownsRow w.heap.size 39 12 (.slice (some ⟨w.heap.size, 0, none⟩) L.length L.length) L.length (cellsOf rowC R) ∧ ∀ j (h : j < L.length) (h' : j < R.length), j < i → R[j].2 = L[j].2 ∧ Free w wr w.heap.size R[j]) ∧ Hid (Below w.heap.size w wr)) (fun t _ => L.length - (intOf t).toNat)
  case atStart => exact ⟨0, by omega, rfl, ⟨_, by simp, HO.out, fun j h h' hj => absurd hj (by omega)⟩, HB.out⟩
  case round =>
    clear HO HB
    obtain ⟨i, hi, rfl, HI, HB⟩ := hrel
    by_cases hlt : i < L.length
    · obtain ⟨R, hRl, hRo, hRf⟩ := HI.out
      have HRL : Hid (R.length = L.length) := hRl
      have HRO : Hid (wr.ownsRow w.heap.size 39 12 (.slice (some ⟨w.heap.size, 0, none⟩) L.length L.length) L.length (cellsOf rowC R)) := hRo
      have HRF : Hid (∀ j (h : j < L.length) (h' : j < R.length), j < i → R[j].2 = L[j].2 ∧ Free w wr w.heap.size R[j]) := hRf
      clear hRl hRo hRf HI
      have hiI : (i : Int) < (L.length : Int) := by omega
      obtain ⟨g, off, rfl, hrow⟩ := DB.at (HL.out.below HB.out) i hlt
      obtain rfl : off = 0 := by
        obtain ⟨g', e⟩ := HAG.out _ rfl
        simp only [Addr.mk.injEq] at e; exact e.2.1
      rw [Nat.zero_add] at hrow
      have HR0 : Hid (RowAt wr g (i * 12) L[i]) := hrow
      have HRr : Hid ((L[i]).2 = (L[i]).2 ∧ L[i] ∈ L ∧ i < R.length) := ⟨rfl, List.getElem_mem hlt, by rw [HRL.out]; exact hlt⟩
      clear hrow
      obtain ⟨r, hr⟩ : ∃ r, L[i] = r := ⟨_, rfl⟩
      have HEQ : Hid (L[i] = r) := hr
      rw [hr] at HR0 HRr
      clear hr
      have hKr := (HK.out.below HB.out).row HRr.out.2.1
      have HMr : Hid (Held wr r.1 r.2 ∧ Nils r.1 ∧ Mid r.2) := ⟨hKr.1, hKr.2.1, hKr.2.2.1⟩
      clear hKr
      obtain ⟨c0, c1, c2, c3, c4, c5, c6, c7, c8, c9, c10, c11⟩ := HR0.out
      have HBX : Hid (Box (wr.alloc (.cells (lsaA r.1 r.2) 39)) wr.heap.size r.1 r.2) := box_new wr r.1 r.2
      have HB2 : Hid (Below wr.heap.size wr (wr.alloc (.cells (lsaA r.1 r.2) 39))) := below_new' _ _
      go_upto_region 7 with fail
      clear c0 c1 c2 c3 c4 c5 c6 c7 c8 c9 c10 c11
      generalize wr.alloc (.cells (lsaA r.1 r.2) 39) = V at *
      obtain ⟨c0, c1, c2, c3, c4, c5, c6, c7, c8, c9, c10, c11⟩ := HBX.out
      have CC := clone_any r.1 r.2 V (HMr.out.1.below HB2.out) HMr.out.2.2 HMr.out.2.1
      go_wp2_with fail
      refine CC.mono ?_
      rintro e w3 ⟨s1, rfl, hh, hn, hb, f1, f2, f3⟩
      clear c0 c1 c2 c3 c4 c5 c6 c7 c8 c9 c10 c11 CC
      have hVs := HB2.out.size
      have hWs := HB.out.size
      have HB3 : Hid (Below wr.heap.size wr w3) := below_more HB2.out hb HB2.out.size
      have HN : Hid (Held w3 s1 r.2 ∧ Nils s1 ∧ Far w.heap.size s1.la ∧ Far w.heap.size s1.ra ∧ Far w.heap.size s1.va ∧ Off w.heap.size (s1, r.2)) := ⟨hh, hn, f1.mono (by omega), f2.mono (by omega), f3.mono (by omega), off_far f1 f2 f3 (by have := World.ownsRow.lt HRO.out w.heap.size rfl; omega)⟩
      have HRO3 : Hid (w3.ownsRow w.heap.size 39 12 (.slice (some ⟨w.heap.size, 0, none⟩) L.length L.length) L.length (cellsOf rowC R)) := own_below HRO.out HB3.out
      clear hh hn hb f1 f2 f3 hVs hWs HBX HMr
      obtain ⟨y0, y1, y2, y3, y4, y5, y6, y7, y8, y9, y10, y11⟩ := own_row HRL.out.symm HRO3.out i HRr.out.2.2
      have hfz : ∀ j, w3.frozen? ⟨w.heap.size, j, none⟩ = false := fun j => World.ownsRow.frozenAt HRO3.out j
      go_wp2
      clear y0 y1 y2 y3 y4 y5 y6 y7 y8 y9 y10 y11 hfz
      have hpu := own_put12 (L := R) (p := i) (by rw [HRL.out]; exact HRO3.out) HRr.out.2.2 s1 r.2
      rw [HRL.out] at hpu
      have HPU : Hid (((((((((((((w3.setCell ⟨w.heap.size, i * 12, none⟩ (.int .i64 r.2.head.age)).setCell ⟨w.heap.size, i * 12 + 1, none⟩ (.int .i64 r.2.head.kind)).setCell ⟨w.heap.size, i * 12 + 2, none⟩ (.int .i64 r.2.head.id)).setCell ⟨w.heap.size, i * 12 + 3, none⟩ (.int .i64 r.2.head.adv)).setCell ⟨w.heap.size, i * 12 + 4, none⟩ (.int .i64 r.2.head.seq)).setCell ⟨w.heap.size, i * 12 + 5, none⟩ (.int .i64 r.2.head.sum)).setCell ⟨w.heap.size, i * 12 + 6, none⟩ (.int .i64 r.2.head.len)).setCell ⟨w.heap.size, i * 12 + 7, none⟩ (.int .i64 r.2.flags)).setCell ⟨w.heap.size, i * 12 + 8, none⟩ (.slice s1.la r.2.links.length s1.lc)).setCell ⟨w.heap.size, i * 12 + 9, none⟩ (.int .i64 r.2.bits)).setCell ⟨w.heap.size, i * 12 + 10, none⟩ (.slice s1.ra r.2.routers.length s1.rc)).setCell ⟨w.heap.size, i * 12 + 11, none⟩ (.slice s1.va r.2.verts.length s1.vc)).ownsRow w.heap.size 39 12 (.slice (some ⟨w.heap.size, 0, none⟩) L.length L.length) L.length (cellsOf rowC (R.set i (s1, r.2))) ∧ w3.grownBy ((((((((((((w3.setCell ⟨w.heap.size, i * 12, none⟩ (.int .i64 r.2.head.age)).setCell ⟨w.heap.size, i * 12 + 1, none⟩ (.int .i64 r.2.head.kind)).setCell ⟨w.heap.size, i * 12 + 2, none⟩ (.int .i64 r.2.head.id)).setCell ⟨w.heap.size, i * 12 + 3, none⟩ (.int .i64 r.2.head.adv)).setCell ⟨w.heap.size, i * 12 + 4, none⟩ (.int .i64 r.2.head.seq)).setCell ⟨w.heap.size, i * 12 + 5, none⟩ (.int .i64 r.2.head.sum)).setCell ⟨w.heap.size, i * 12 + 6, none⟩ (.int .i64 r.2.head.len)).setCell ⟨w.heap.size, i * 12 + 7, none⟩ (.int .i64 r.2.flags)).setCell ⟨w.heap.size, i * 12 + 8, none⟩ (.slice s1.la r.2.links.length s1.lc)).setCell ⟨w.heap.size, i * 12 + 9, none⟩ (.int .i64 r.2.bits)).setCell ⟨w.heap.size, i * 12 + 10, none⟩ (.slice s1.ra r.2.routers.length s1.rc)).setCell ⟨w.heap.size, i * 12 + 11, none⟩ (.slice s1.va r.2.verts.length s1.vc)) (some w.heap.size)) := hpu
      clear hpu
      generalize ((((((((((((w3.setCell ⟨w.heap.size, i * 12, none⟩ (.int .i64 r.2.head.age)).setCell ⟨w.heap.size, i * 12 + 1, none⟩ (.int .i64 r.2.head.kind)).setCell ⟨w.heap.size, i * 12 + 2, none⟩ (.int .i64 r.2.head.id)).setCell ⟨w.heap.size, i * 12 + 3, none⟩ (.int .i64 r.2.head.adv)).setCell ⟨w.heap.size, i * 12 + 4, none⟩ (.int .i64 r.2.head.seq)).setCell ⟨w.heap.size, i * 12 + 5, none⟩ (.int .i64 r.2.head.sum)).setCell ⟨w.heap.size, i * 12 + 6, none⟩ (.int .i64 r.2.head.len)).setCell ⟨w.heap.size, i * 12 + 7, none⟩ (.int .i64 r.2.flags)).setCell ⟨w.heap.size, i * 12 + 8, none⟩ (.slice s1.la r.2.links.length s1.lc)).setCell ⟨w.heap.size, i * 12 + 9, none⟩ (.int .i64 r.2.bits)).setCell ⟨w.heap.size, i * 12 + 10, none⟩ (.slice s1.ra r.2.routers.length s1.rc)).setCell ⟨w.heap.size, i * 12 + 11, none⟩ (.slice s1.va r.2.verts.length s1.vc)) = Z at *
      have HT : Hid (Turned w.heap.size (some w.heap.size) w3 Z) := Turned.grown HPU.out.2
      have HBZ : Hid (Below w.heap.size w Z) := HB.out.trans ((HB3.out.mono HB.out.size).trans (HT.out.below (Nat.le_trans HB.out.size HB3.out.size) (Nat.le_refl _) (fun k hk => by cases hk; exact Nat.le_refl _)))
      have HNEW : Hid (∃ R : List Row, R.length = L.length ∧ Z.ownsRow w.heap.size 39 12 (.slice (some ⟨w.heap.size, 0, none⟩) L.length L.length) L.length (cellsOf rowC R) ∧ ∀ j (h : j < L.length) (h' : j < R.length), j < i + 1 → R[j].2 = L[j].2 ∧ Free w Z w.heap.size R[j]) := by
        refine ⟨R.set i (s1, r.2), by rw [List.length_set]; exact HRL.out, HPU.out.1, ?_⟩
        intro j h h' hj
        by_cases hji : j = i
        · subst hji
          rw [List.getElem_set_self, HEQ.out]
          exact ⟨rfl, Free.turned (k := 0) HN.out HT.out⟩
        · have h2 : j < R.length := by rw [HRL.out]; exact h
          rw [List.getElem_set_ne (by omega)]
          obtain ⟨q1, q2⟩ := HRF.out j h h2 (by omega)
          exact ⟨q1, Free.turned (k := 0) ⟨q2.1.below HB3.out, q2.2⟩ HT.out⟩
      clear HPU HT HN HRO HRO3 HRF
      go_roundw
      case rel => exact ⟨i + 1, by omega, by go_num, HNEW, HBZ⟩
      case measure => simp [intOf]; omega
    · obtain ⟨R, hRl, hRo, hRf⟩ := HI.out
      have HE : Hid (AllEnd w L (.returned (.slice (some ⟨w.heap.size, 0, none⟩) L.length L.length)) wr) := ⟨_, _, R, rfl, Nat.le_refl _, hRl, hRo, fun j h h' => hRf j h h' (by omega), HB.out⟩
      clear hRl hRo hRf HI
      go_wp2
      go_ret
      exact HE.out
end Go.Proofs.Ytmcemhkhgccojaa
