/- Heads: the heads of the rows. -/
import Derived.Test.YtmcemhkhgccojaaS8W13
namespace Go.Proofs.Ytmcemhkhgccojaa
open Go.RowKit
set_option linter.unusedVariables false

def hdC (h : HeadZ) : List Value := (headA h).toList
theorem hdC_length (h : HeadZ) : (hdC h).length = 7 := rfl
theorem hds_len (L : List HeadZ) : (cellsOf hdC L).length = L.length * 7 := cellsOf_length hdC 7 hdC_length L
theorem hds_app (L M : List HeadZ) : cellsOf hdC (L ++ M) = cellsOf hdC L ++ cellsOf hdC M := by unfold cellsOf; rw [List.flatMap_append]
theorem info_head : (Try.prog.info? 34).map (fun i => (i.zero, i.size, i.bytes)) = some (some (.agg #[.int .i64 0, .int .i64 0, .int .i64 0, .int .i64 0, .int .i64 0, .int .i64 0, .int .i64 0]), 7, 56) := by kernel_rfl
theorem made_heads (n : Nat) : (madeCells (Value.cells (.agg #[.int .i64 0, .int .i64 0, .int .i64 0, .int .i64 0, .int .i64 0, .int .i64 0, .int .i64 0])) (n * 7)).toList = cellsOf hdC (List.replicate n ⟨0, 0, 0, 0, 0, 0, 0⟩) := by
  apply List.ext_getElem?
  intro j
  by_cases hj : j < n * 7
  · have hd : j / 7 < (List.replicate n (⟨0, 0, 0, 0, 0, 0, 0⟩ : HeadZ)).length := by rw [List.length_replicate]; omega
    have hr : j % 7 < 7 := Nat.mod_lt _ (by omega)
    have e : j = j / 7 * 7 + j % 7 := by omega
    have h1 := cellsOf_at hdC 7 hdC_length (List.replicate n ⟨0, 0, 0, 0, 0, 0, 0⟩) (j / 7) (j % 7) hd hr
    rw [← e] at h1
    rw [h1, List.getElem_replicate]
    simp only [madeCells, Array.getElem?_toList, Array.getElem?_map, Array.getElem?_range]
    simp [hj, Value.cells]
    show some ((hdC ⟨0, 0, 0, 0, 0, 0, 0⟩)[j % 7]?.getD default) = (hdC ⟨0, 0, 0, 0, 0, 0, 0⟩)[j % 7]?
    rw [List.getElem?_eq_getElem (by rw [hdC_length]; exact hr)]; rfl
  · rw [List.getElem?_eq_none (by simp [madeCells]; omega), List.getElem?_eq_none (by rw [hds_len, List.length_replicate]; omega)]
theorem set7h (L : List HeadZ) (p : Nat) (hp : p < L.length) (h : HeadZ) : ((((((((cellsOf hdC L).set (p * 7) (.int .i64 h.age)).set (p * 7 + 1) (.int .i64 h.kind)).set (p * 7 + 2) (.int .i64 h.id)).set (p * 7 + 3) (.int .i64 h.adv)).set (p * 7 + 4) (.int .i64 h.seq)).set (p * 7 + 5) (.int .i64 h.sum)).set (p * 7 + 6) (.int .i64 h.len)) = cellsOf hdC (L.set p h) := by
  obtain ⟨A, r, B, rfl, rfl⟩ : ∃ A r B, L = A ++ r :: B ∧ A.length = p := ⟨L.take p, L[p], L.drop (p + 1), by rw [List.getElem_cons_drop, List.take_append_drop], by simp; omega⟩
  have hA := hds_len A
  rw [hds_app, show cellsOf hdC (r :: B) = hdC r ++ cellsOf hdC B from rfl]
  have e : (A ++ r :: B).set A.length h = A ++ h :: B := by simp
  rw [e, hds_app, show cellsOf hdC (h :: B) = hdC h ++ cellsOf hdC B from rfl]
  rw [← hA]
  simp [hdC]
theorem own_put7 {w : World} {N g c p : Nat} {L : List HeadZ} (hh : w.ownsRow N 34 7 (.slice (some ⟨g, 0, none⟩) L.length c) L.length (cellsOf hdC L)) (hp : p < L.length) (h : HeadZ) :
    (((((((w.setCell ⟨g, p * 7, none⟩ (.int .i64 h.age)).setCell ⟨g, p * 7 + 1, none⟩ (.int .i64 h.kind)).setCell ⟨g, p * 7 + 2, none⟩ (.int .i64 h.id)).setCell ⟨g, p * 7 + 3, none⟩ (.int .i64 h.adv)).setCell ⟨g, p * 7 + 4, none⟩ (.int .i64 h.seq)).setCell ⟨g, p * 7 + 5, none⟩ (.int .i64 h.sum)).setCell ⟨g, p * 7 + 6, none⟩ (.int .i64 h.len)).ownsRow N 34 7 (.slice (some ⟨g, 0, none⟩) L.length c) L.length (cellsOf hdC (L.set p h)) ∧ w.grownBy (((((((w.setCell ⟨g, p * 7, none⟩ (.int .i64 h.age)).setCell ⟨g, p * 7 + 1, none⟩ (.int .i64 h.kind)).setCell ⟨g, p * 7 + 2, none⟩ (.int .i64 h.id)).setCell ⟨g, p * 7 + 3, none⟩ (.int .i64 h.adv)).setCell ⟨g, p * 7 + 4, none⟩ (.int .i64 h.seq)).setCell ⟨g, p * 7 + 5, none⟩ (.int .i64 h.sum)).setCell ⟨g, p * 7 + 6, none⟩ (.int .i64 h.len)) (some g) := by
  rw [← set7h L p hp h]
  have h0 := World.ownsRow.stored hh (p * 7) (.int .i64 h.age)
  have h1 := World.ownsRow.stored h0.1 (p * 7 + 1) (.int .i64 h.kind)
  have h2 := World.ownsRow.stored h1.1 (p * 7 + 2) (.int .i64 h.id)
  have h3 := World.ownsRow.stored h2.1 (p * 7 + 3) (.int .i64 h.adv)
  have h4 := World.ownsRow.stored h3.1 (p * 7 + 4) (.int .i64 h.seq)
  have h5 := World.ownsRow.stored h4.1 (p * 7 + 5) (.int .i64 h.sum)
  have h6 := World.ownsRow.stored h5.1 (p * 7 + 6) (.int .i64 h.len)
  exact ⟨h6.1, (grown_trans (grown_trans (grown_trans (grown_trans (grown_trans (grown_trans h0.2 h1.2) h2.2) h3.2) h4.2) h5.2) h6.2)⟩
/-- How Heads ends. -/
def HeadsEnd (w : World) (L : List Row) (e : Ending) (w' : World) : Prop := ∃ g c, e = .returned (.slice (some ⟨g, 0, none⟩) L.length c) ∧ w.heap.size ≤ g ∧ w'.ownsRow w.heap.size 34 7 (.slice (some ⟨g, 0, none⟩) L.length c) L.length (cellsOf hdC (L.map fun r => r.2.head)) ∧ Below w.heap.size w w'
set_option maxHeartbeats 6400000 in
set_option maxRecDepth 20000 in
theorem heads_any (N b : Nat) (most : Int) (lv : Value) (L : List Row) (w : World) (h : Keeps w N b most lv L) : Calls Try.prog 23 #[.pointer (some ⟨b, 0, none⟩)] w (HeadsEnd w L) := by
  obtain ⟨a, c, rfl, hL, hLc, hcm, hanil, hag⟩ := h.lies
  have hlen : L.length ≤ 1000000 := h.len
  have HK : Hid (Keeps w N b most (.slice a L.length c) L) := h
  have HL : Hid (Lies w a (cellsOf rowC L)) := hL
  have HAG : Hid (∀ x, a = some x → ∃ g, x = ⟨g, 0, none⟩) := fun x hx => by obtain ⟨g, e, -⟩ := hag x hx; exact ⟨g, e⟩
  have b1 := h.obj.cell 1 rfl
  have hlc : (L.length : Int) ≤ (c : Int) := by omega
  obtain ⟨i, hi, hz0, hz1, hz2⟩ := info_parts info_head
  obtain ⟨W1, hrM, ho, hg⟩ := run_make_full (P := Try.prog) w w.heap.size 59 34 i _ 7 Try.underlying59 hi hz0 hz1 .i64 .i64 L.length (by rw [hz2]; omega) (by unfold maxLen; omega) (Nat.le_refl _)
  rw [made_heads] at ho
  have HO : Hid (W1.ownsRow w.heap.size 34 7 (.slice (some ⟨w.heap.size, 0, none⟩) L.length L.length) L.length (cellsOf hdC (List.replicate L.length ⟨0, 0, 0, 0, 0, 0, 0⟩))) := ho
  have HB : Hid (Below w.heap.size w W1) := grown_none hg
  clear h hL hLc hcm hanil hag ho hg hi hz0 hz1 hz2 i
  go_enter Try.func23, Try.ntmps23
  go_upto_region 4 with fail
  clear hrM b1
  have b1 := (HK.out.below HB.out).obj.cell 1 rfl
  go_wp2_with fail
  clear b1
  go_loopw [19] (fun t wr => ∃ i : Nat, i ≤ L.length ∧ t = .int .i64 i ∧ Hid (∃ R : List HeadZ, R.length = L.length ∧ wr.ownsRow w.heap.size 34 7 (.slice (some ⟨w.heap.size, 0, none⟩) L.length L.length) L.length (cellsOf hdC R) ∧ ∀ j (h : j < L.length) (h' : j < R.length), j < i → R[j] = L[j].2.head) ∧ Hid (Below w.heap.size w wr)) (fun t _ => L.length - (intOf t).toNat)
  case atStart => exact ⟨0, by omega, rfl, ⟨_, by simp, HO.out, fun j h h' hj => absurd hj (by omega)⟩, HB.out⟩
  case round =>
    clear HO HB
    obtain ⟨i, hi, rfl, HI, HB⟩ := hrel
    by_cases hlt : i < L.length
    · obtain ⟨R, hRl, hRo, hRf⟩ := HI.out
      have HRL : Hid (R.length = L.length) := hRl
      have HRO : Hid (wr.ownsRow w.heap.size 34 7 (.slice (some ⟨w.heap.size, 0, none⟩) L.length L.length) L.length (cellsOf hdC R)) := hRo
      have HRF : Hid (∀ j (h : j < L.length) (h' : j < R.length), j < i → R[j] = L[j].2.head) := hRf
      clear hRl hRo hRf HI
      have hiI : (i : Int) < (L.length : Int) := by omega
      obtain ⟨g, off, rfl, hrow⟩ := DB.at (HL.out.below HB.out) i hlt
      obtain rfl : off = 0 := by
        obtain ⟨g', e⟩ := HAG.out _ rfl
        simp only [Addr.mk.injEq] at e; exact e.2.1
      rw [Nat.zero_add] at hrow
      have HR0 : Hid (RowAt wr g (i * 12) L[i]) := hrow
      clear hrow
      obtain ⟨r, hr⟩ : ∃ r, L[i] = r := ⟨_, rfl⟩
      have HEQ : Hid (L[i] = r) := hr
      rw [hr] at HR0
      clear hr
      obtain ⟨c0, c1, c2, c3, c4, c5, c6, c7, c8, c9, c10, c11⟩ := HR0.out
      have HBX : Hid (Box (wr.alloc (.cells (lsaA r.1 r.2) 39)) wr.heap.size r.1 r.2) := box_new wr r.1 r.2
      have HB2 : Hid (Below wr.heap.size wr (wr.alloc (.cells (lsaA r.1 r.2) 39))) := below_new' _ _
      go_upto_region 7 with fail
      clear c0 c1 c2 c3 c4 c5 c6 c7 c8 c9 c10 c11
      generalize wr.alloc (.cells (lsaA r.1 r.2) 39) = V at *
      obtain ⟨c0, c1, c2, c3, c4, c5, c6, c7, c8, c9, c10, c11⟩ := HBX.out
      have HRV : Hid (V.ownsRow w.heap.size 34 7 (.slice (some ⟨w.heap.size, 0, none⟩) L.length L.length) L.length (cellsOf hdC R)) := own_below HRO.out HB2.out
      have hri : i < R.length := by rw [HRL.out]; exact hlt
      have hRLi : (R.length : Int) = (L.length : Int) := by rw [HRL.out]
      have hfz : ∀ j, V.frozen? ⟨w.heap.size, j, none⟩ = false := fun j => World.ownsRow.frozenAt HRV.out j
      have hcl : ∀ j, j < 7 → ∃ v, V.cell? ⟨w.heap.size, i * 7 + j, none⟩ = some v := fun j hj => by
        obtain ⟨b', off', e, hr⟩ := (owns_lies HRV.out).cell hdC 7 hdC_length (by rintro rfl; simp at hri) (by omega)
        cases e
        refine ⟨(hdC R[i])[j]'(by rw [hdC_length]; exact hj), ?_⟩
        have := hr i j hri hj
        rw [Nat.zero_add] at this
        rw [this]; exact List.getElem?_eq_getElem _
      obtain ⟨v0, y0⟩ := hcl 0 (by omega)
      obtain ⟨v1, y1⟩ := hcl 1 (by omega)
      obtain ⟨v2, y2⟩ := hcl 2 (by omega)
      obtain ⟨v3, y3⟩ := hcl 3 (by omega)
      obtain ⟨v4, y4⟩ := hcl 4 (by omega)
      obtain ⟨v5, y5⟩ := hcl 5 (by omega)
      obtain ⟨v6, y6⟩ := hcl 6 (by omega)
      rw [Nat.add_zero] at y0
      clear hcl
      go_wp2
      clear c0 c1 c2 c3 c4 c5 c6 c7 c8 c9 c10 c11 y0 y1 y2 y3 y4 y5 y6 hfz
      have hpu := own_put7 (L := R) (p := i) (by rw [HRL.out]; exact HRV.out) hri r.2.head
      rw [HRL.out] at hpu
      have HPU : Hid ((((((((V.setCell ⟨w.heap.size, i * 7, none⟩ (.int .i64 r.2.head.age)).setCell ⟨w.heap.size, i * 7 + 1, none⟩ (.int .i64 r.2.head.kind)).setCell ⟨w.heap.size, i * 7 + 2, none⟩ (.int .i64 r.2.head.id)).setCell ⟨w.heap.size, i * 7 + 3, none⟩ (.int .i64 r.2.head.adv)).setCell ⟨w.heap.size, i * 7 + 4, none⟩ (.int .i64 r.2.head.seq)).setCell ⟨w.heap.size, i * 7 + 5, none⟩ (.int .i64 r.2.head.sum)).setCell ⟨w.heap.size, i * 7 + 6, none⟩ (.int .i64 r.2.head.len)).ownsRow w.heap.size 34 7 (.slice (some ⟨w.heap.size, 0, none⟩) L.length L.length) L.length (cellsOf hdC (R.set i r.2.head)) ∧ V.grownBy (((((((V.setCell ⟨w.heap.size, i * 7, none⟩ (.int .i64 r.2.head.age)).setCell ⟨w.heap.size, i * 7 + 1, none⟩ (.int .i64 r.2.head.kind)).setCell ⟨w.heap.size, i * 7 + 2, none⟩ (.int .i64 r.2.head.id)).setCell ⟨w.heap.size, i * 7 + 3, none⟩ (.int .i64 r.2.head.adv)).setCell ⟨w.heap.size, i * 7 + 4, none⟩ (.int .i64 r.2.head.seq)).setCell ⟨w.heap.size, i * 7 + 5, none⟩ (.int .i64 r.2.head.sum)).setCell ⟨w.heap.size, i * 7 + 6, none⟩ (.int .i64 r.2.head.len)) (some w.heap.size)) := hpu
      clear hpu
      generalize (((((((V.setCell ⟨w.heap.size, i * 7, none⟩ (.int .i64 r.2.head.age)).setCell ⟨w.heap.size, i * 7 + 1, none⟩ (.int .i64 r.2.head.kind)).setCell ⟨w.heap.size, i * 7 + 2, none⟩ (.int .i64 r.2.head.id)).setCell ⟨w.heap.size, i * 7 + 3, none⟩ (.int .i64 r.2.head.adv)).setCell ⟨w.heap.size, i * 7 + 4, none⟩ (.int .i64 r.2.head.seq)).setCell ⟨w.heap.size, i * 7 + 5, none⟩ (.int .i64 r.2.head.sum)).setCell ⟨w.heap.size, i * 7 + 6, none⟩ (.int .i64 r.2.head.len)) = Z at *
      have HT : Hid (Turned w.heap.size (some w.heap.size) V Z) := Turned.grown HPU.out.2
      have HBZ : Hid (Below w.heap.size w Z) := HB.out.trans ((HB2.out.mono HB.out.size).trans (HT.out.below (Nat.le_trans HB.out.size HB2.out.size) (Nat.le_refl _) (fun k hk => by cases hk; exact Nat.le_refl _)))
      have HNEW : Hid (∃ R : List HeadZ, R.length = L.length ∧ Z.ownsRow w.heap.size 34 7 (.slice (some ⟨w.heap.size, 0, none⟩) L.length L.length) L.length (cellsOf hdC R) ∧ ∀ j (h : j < L.length) (h' : j < R.length), j < i + 1 → R[j] = L[j].2.head) := by
        refine ⟨R.set i r.2.head, by rw [List.length_set]; exact HRL.out, HPU.out.1, ?_⟩
        intro j h h' hj
        by_cases hji : j = i
        · subst hji
          rw [List.getElem_set_self, HEQ.out]
        · have h2 : j < R.length := by rw [HRL.out]; exact h
          rw [List.getElem_set_ne (by omega)]
          exact HRF.out j h h2 (by omega)
      clear HPU HT HRO HRV HRF hri hRLi
      go_roundw
      case rel => exact ⟨i + 1, by omega, by go_num, HNEW, HBZ⟩
      case measure => simp [intOf]; omega
    · obtain ⟨R, hRl, hRo, hRf⟩ := HI.out
      have hRe : R = L.map fun r => r.2.head := List.ext_getElem (by simp [hRl]) fun j h1 h2 => by
        rw [List.getElem_map]; exact hRf j (by omega) h1 (by omega)
      rw [hRe] at hRo
      have HE : Hid (HeadsEnd w L (.returned (.slice (some ⟨w.heap.size, 0, none⟩) L.length L.length)) wr) := ⟨_, _, rfl, Nat.le_refl _, hRo, HB.out⟩
      clear hRl hRo hRf HI hRe
      go_wp2
      go_ret
      exact HE.out
end Go.Proofs.Ytmcemhkhgccojaa
