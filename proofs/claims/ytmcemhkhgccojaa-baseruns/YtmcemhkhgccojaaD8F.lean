/- The document's Heads; whether two lists of heads are one. -/
import Derived.Test.YtmcemhkhgccojaaD8E
import Derived.Test.YtmcemhkhgccojaaS8W16
namespace Go.Proofs.Ytmcemhkhgccojaa
open Go.RowKit
set_option linter.unusedVariables false

def OwnH (w : World) (N : Nat) (v : Value) (H : List HeadZ) : Prop := w.ownsRow N 34 7 v H.length (cellsOf hdC H)
theorem ownH_snoc {w : World} {N : Nat} {v : Value} {M : List HeadZ} {r : HeadZ} (h : w.ownsRow N 34 7 v (M.length + 1) (cellsOf hdC M ++ hdC r)) : OwnH w N v (M ++ [r]) := by
  unfold OwnH cellsOf at *
  rw [List.flatMap_append, List.length_append]
  simpa using h
theorem OwnH.lies {w : World} {N : Nat} {v : Value} {H : List HeadZ} (h : OwnH w N v H) : ∃ a c, v = .slice a H.length c ∧ Lies w a (cellsOf hdC H) := by
  rcases h.2 with ⟨h1, h0⟩ | ⟨g, cap, cur, h1, _⟩
  · exact ⟨none, 0, by rw [h1, h0], .inl (cells_none hdC h0)⟩
  · have h' := h
    unfold OwnH at h'
    rw [h1] at h'
    exact ⟨some ⟨g, 0, none⟩, cap, h1, owns_lies h'⟩
set_option maxHeartbeats 6400000 in
set_option maxRecDepth 20000 in
theorem dheads_any (N b : Nat) (most : Int) (lv : Value) (L : List Row) (w : World) (h : Keeps w N b most lv L) :
    Calls Try.prog 24 #[.pointer (some ⟨b, 0, none⟩)] w fun e w' => ∃ v, e = .returned v ∧ OwnH w' w.heap.size v (L.map fun r => r.2.head) ∧ Below w.heap.size w w' := by
  have hlen : L.length ≤ 1000000 := h.len
  have HK : Hid (Keeps w N b most lv L) := h
  obtain ⟨a, c, hlv, -, hLc, -, -, -⟩ := h.lies
  have HLV : Hid (lv = .slice a L.length c) := hlv
  obtain ⟨ki, hki, hkz0, hkz1, hkz2⟩ := info_parts info_head
  have HI : Hid (Try.prog.info? 34 = some ki) := hki
  have H0 : Hid (_ = _) := hkz0
  have H1 : Hid (_ = _) := hkz1
  have H2 : Hid (_ = _) := hkz2
  clear h hki hkz0 hkz1 hkz2 hlv
  go_enter Try.func24, Try.ntmps24
  go_wp2_with fail
  go_loopw [3, 4] (fun u t wr => ∃ i : Nat, i ≤ L.length ∧ t = .int .i64 (i : Int) ∧ Hid (OwnH wr w.heap.size u ((L.map fun r => r.2.head).take i)) ∧ Hid (Below w.heap.size w wr)) (fun _ t _ => L.length - (intOf t).toNat)
  case atStart => exact ⟨0, by omega, rfl, World.ownsRow_nil _ _ _ _, Below.refl _ _⟩
  case round =>
    obtain ⟨i, hi, rfl, HD, HB⟩ := hrel
    have b1 := (HK.out.below HB.out).obj.cell 1 rfl
    rw [HLV.out] at b1
    by_cases hlt : i < L.length
    · have hiI : (i : Int) < (L.length : Int) := by omega
      obtain ⟨g, c', e, -, -, -, hrow, -⟩ := (HK.out.below HB.out).at i hlt
      obtain rfl : a = some ⟨g, 0, none⟩ := by
        have e2 := HLV.out
        rw [e] at e2
        simp only [Value.slice.injEq] at e2
        exact e2.1.symm
      have HTK : Hid ((L.map fun r => r.2.head).take (i + 1) = (L.map fun r => r.2.head).take i ++ [(L[i]).2.head]) := by
        show _ = _
        rw [← List.take_append_getElem (by rw [List.length_map]; exact hlt), List.getElem_map]
      have hdl : ((L.map fun r => r.2.head).take i).length ≤ 1000000 := by rw [List.length_take, List.length_map]; omega
      generalize L[i] = r at *
      obtain ⟨s, ⟨h, fl, lk, bi, ro, ve⟩⟩ := r
      replace HTK : Hid ((L.map fun r => r.2.head).take (i + 1) = (L.map fun r => r.2.head).take i ++ [h]) := HTK
      clear e
      obtain ⟨c0, c1, c2, c3, c4, c5, c6, c7, c8, c9, c10, c11⟩ := hrow
      have HB6 : Hid (Below w.heap.size w (wr.alloc (.cells (headA h) 34))) := HB.out.alloc HB.out.size _
      have HD6 : Hid (OwnH (wr.alloc (.cells (headA h) 34)) w.heap.size u3 ((L.map fun r => r.2.head).take i)) := own_below HD.out (below_new' _ _)
      have HL6 : Hid (Lies (wr.alloc (.cells (headA h) 34)) (some ⟨wr.heap.size, 0, none⟩) (hdC h)) := lies_new wr (hdC h) _
      have hsz := HB6.out.size
      go_wp2_with (at_builtin; go_must (refine wpList_append_hence (wr.alloc (.cells (headA h) 34)) rfl _ _ 59 rfl w.heap.size 34 ki _ 7 56 Try.underlying59 HI.out H0.out H1.out H2.out rfl (by decide) u3 _ _ rfl HD6.out _ 1 _ (hdC h) rfl rfl HL6.out.at (fun u hu => by simp [hdC] at hu; rcases hu with rfl | rfl | rfl | rfl | rfl | rfl | rfl <;> rfl) (by unfold maxLen; omega) (by omega) hsz ?_))
      intro v' w6 ho6 hg6 hh6
      have HB7 : Hid (Below w.heap.size w w6) := HB6.out.trans ((Below.refl _ _).grown hg6 hsz (fun k hk => (World.ownsRow.lt HD6.out k hk).1))
      have HD7 : Hid (OwnH w6 w.heap.size v' ((L.map fun r => r.2.head).take (i + 1))) := by
        show OwnH _ _ _ _
        rw [HTK.out]
        have hli : i = ((L.map fun r => r.2.head).take i).length := by rw [List.length_take, List.length_map]; omega
        exact ownH_snoc (by rw [← hli]; exact ho6)
      clear HB6 HD6 HL6 ho6 hg6 hh6 HTK HB HD c0 c1 c2 c3 c4 c5 c6 c7 c8 c9 c10 c11 b1
      go_wp2
      go_roundw
      case rel => exact ⟨i + 1, by omega, by go_num, HD7, HB7⟩
      case measure => simp [intOf]; omega
    · obtain rfl : i = L.length := by omega
      have hnl : ¬ ((L.length : Int) < (L.length : Int)) := by omega
      have HEND : Hid (OwnH wr w.heap.size u3 (L.map fun r => r.2.head) ∧ Below w.heap.size w wr) := by
        have ho := HD.out
        rw [List.take_of_length_le (by simp)] at ho
        exact ⟨ho, HB.out⟩
      clear HD HB
      go_wp2
      go_ret
      exact ⟨_, rfl, HEND.out.1, HEND.out.2⟩
theorem heads_cell {w : World} {a : Option Addr} {H : List HeadZ} (h : Lies w a (cellsOf hdC H)) (i : Nat) (hi : i < H.length) : ∃ b off, a = some ⟨b, off, none⟩ ∧ w.cell? ⟨b, off + i * 7, none⟩ = some (.int .i64 H[i].age) ∧ w.cell? ⟨b, off + i * 7 + 1, none⟩ = some (.int .i64 H[i].kind) ∧ w.cell? ⟨b, off + i * 7 + 2, none⟩ = some (.int .i64 H[i].id) ∧ w.cell? ⟨b, off + i * 7 + 3, none⟩ = some (.int .i64 H[i].adv) ∧ w.cell? ⟨b, off + i * 7 + 4, none⟩ = some (.int .i64 H[i].seq) ∧ w.cell? ⟨b, off + i * 7 + 5, none⟩ = some (.int .i64 H[i].sum) ∧ w.cell? ⟨b, off + i * 7 + 6, none⟩ = some (.int .i64 H[i].len) := by
  obtain ⟨b, off, e, hr⟩ := h.cell hdC 7 hdC_length (by rintro rfl; simp at hi) (by omega)
  have hx : ∀ j, j < 7 → w.cell? ⟨b, off + i * 7 + j, none⟩ = (hdC H[i])[j]? := fun j hj => by rw [Nat.add_assoc]; exact hr i j hi hj
  exact ⟨b, off, e, hx 0 (by omega), hx 1 (by omega), hx 2 (by omega), hx 3 (by omega), hx 4 (by omega), hx 5 (by omega), hx 6 (by omega)⟩
set_option maxHeartbeats 3200000 in
theorem dheadsEq_any (a1 a2 : Option Addr) (c1 c2 : Nat) (D : List HeadZ) (w : World) (h1 : Lies w a1 (cellsOf hdC D)) (h2 : Lies w a2 (cellsOf hdC D)) (hl : D.length ≤ 1000000) :
    Calls Try.prog 22 #[.slice a1 D.length c1, .slice a2 D.length c2] w fun e w' => e = .returned (.bool true) ∧ Below w.heap.size w w' := by
  have HA : Hid (Lies w a1 (cellsOf hdC D)) := h1
  have HC : Hid (Lies w a2 (cellsOf hdC D)) := h2
  clear h1 h2
  go_enter Try.func22, Try.ntmps22
  go_wp2_with fail
  go_loopw [5] (fun t wr => ∃ i : Nat, i ≤ D.length ∧ t = .int .i64 (i : Int) ∧ Hid (Below w.heap.size w wr)) (fun t _ => D.length - (intOf t).toNat)
  case atStart => exact ⟨0, by omega, rfl, Below.refl _ _⟩
  case round =>
    obtain ⟨i, hi, rfl, HB⟩ := hrel
    by_cases hlt : i < D.length
    · have hiI : (i : Int) < (D.length : Int) := by omega
      obtain ⟨b1, o1, rfl, x0, x1, x2, x3, x4, x5, x6⟩ := heads_cell (HA.out.below HB.out) i hlt
      obtain ⟨b2, o2, rfl, y0, y1, y2, y3, y4, y5, y6⟩ := heads_cell (HC.out.below HB.out) i hlt
      generalize D[i] = k at *
      go_upto_region 6 with fail
      go_quiet (fail)
      have HB2 : Hid (Below w.heap.size w (wr.drewN nq)) := below_dr HB.out nq
      clear x0 x1 x2 x3 x4 x5 x6 y0 y1 y2 y3 y4 y5 y6
      go_wp2
      go_roundw
      case rel => exact ⟨i + 1, by omega, by go_num, HB2⟩
      case measure => simp [intOf]; omega
    · obtain rfl : i = D.length := by omega
      have hnl : ¬ ((D.length : Int) < (D.length : Int)) := by omega
      go_wp2
      go_ret
      exact ⟨rfl, HB.out⟩
end Go.Proofs.Ytmcemhkhgccojaa
