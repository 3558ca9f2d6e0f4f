/- One taken out of rows of a database (slices.Delete). -/
import Derived.Test.YtmcemhkhgccojaaX8C
namespace Go.Proofs.Ytmcemhkhgccojaa
open Go.RowKit Go.Lib

/-- What stands behind a place is moved up to it. -/
theorem del_cells (L : List Row) (p : Nat) (hp : p < L.length) (cur : List Value) (hc : cur.take (L.length * 12) = cellsOf rowC L) :
    (cur.take (p * 12) ++ (cellsOf rowC L).drop ((p + 1) * 12) ++ cur.drop (p * 12 + ((cellsOf rowC L).drop ((p + 1) * 12)).length)).take ((L.length - 1) * 12) = cellsOf rowC (L.take p ++ L.drop (p + 1)) := by
  have h1 : cur.take (p * 12) = cellsOf rowC (L.take p) := by
    rw [← cells_take, ← hc, List.take_take]; congr 1; omega
  have h2 := rows_len (L.take p)
  have h3 := rows_len (L.drop (p + 1))
  rw [h1, cells_drop, ← cells_app]
  rw [List.take_append_of_le_length (by rw [rows_len]; simp; omega), List.take_of_length_le (by rw [rows_len]; simp; omega)]
set_option maxHeartbeats 1600000 in
set_option maxRecDepth 100000 in
theorem del_any (N g c : Nat) (L : List Row) (p : Nat) (w : World) (hown : w.ownsRow N 39 12 (.slice (some ⟨g, 0, none⟩) L.length c) L.length (cellsOf rowC L)) (hl : L.length ≤ 1000000000) (hp : p < L.length) :
    Calls Try.prog 41 #[.slice (some ⟨g, 0, none⟩) L.length c, .int .i64 p, .int .i64 (p + 1)] w fun e w' => e = .returned (.slice (some ⟨g, 0, none⟩) (L.length - 1) c) ∧ w'.ownsRow N 39 12 (.slice (some ⟨g, 0, none⟩) (L.length - 1) c) (L.length - 1) (cellsOf rowC (L.take p ++ L.drop (p + 1))) ∧ w.grownBy w' (some g) := by
  obtain ⟨i, hi, hz0, hz1, hz2⟩ := info_parts info_lsa
  obtain ⟨cur, hNg, hg, hnc, hcm, hcs, htk⟩ : ∃ cur, N ≤ g ∧ w.heap[g]? = some (.cells cur 39 (0, 0)) ∧ L.length ≤ c ∧ c ≤ maxLen ∧ cur.size = c * 12 ∧ cur.toList.take (L.length * 12) = cellsOf rowC L := by
    rcases hown.2 with ⟨h1, h2⟩ | ⟨g', cap, cur, h1, h2, h3, h4, h5, h6, h7⟩
    · simp at h1
    · simp only [Value.slice.injEq, Option.some.injEq, Addr.mk.injEq, and_true, true_and] at h1
      obtain ⟨rfl, rfl⟩ := h1
      exact ⟨cur, h2, h3, h4, h5, h6, h7⟩
  have hT : Try.prog.underlying 53 = some (.slice 39) := Try.underlying53
  obtain ⟨m, hm⟩ : ∃ m, L.length = m + 1 := ⟨L.length - 1, by omega⟩
  have HD := del_cells L p hp cur.toList htk
  have hxl : ((cellsOf rowC L).drop ((p + 1) * 12)).length = (m - p) * 12 := by rw [List.length_drop, rows_len]; omega
  have h1x : ∀ u ∈ (cellsOf rowC L).drop ((p + 1) * 12), u.oneCell' = true := fun u hu => rows_one L u (List.mem_of_mem_drop hu)
  obtain ⟨ad, had, hsrc⟩ : ∃ ad : Addr, (if c = p + 1 then (some ⟨g, 0, none⟩ : Option Addr) else some ⟨g, (p + 1) * 12, none⟩) = some ad ∧ ∀ j u, ((cellsOf rowC L).drop ((p + 1) * 12))[j]? = some u → w.drew.cell? (ad.add j) = some u := by
    by_cases h : c = p + 1
    · refine ⟨⟨g, 0, none⟩, by rw [if_pos h], fun j u hu => ?_⟩
      rw [List.drop_of_length_le (by rw [rows_len]; omega)] at hu
      simp at hu
    · refine ⟨⟨g, (p + 1) * 12, none⟩, by rw [if_neg h], fun j u hu => ?_⟩
      rw [addr_add, List.getElem?_drop] at *
      have := World.ownsRow.cells hown (g := g) rfl _ u hu
      rw [addr_add, Nat.zero_add] at this
      exact this
  have hrA : ∀ ty, (Builtin.append_ #[53, 53] ty #[.slice (some ⟨g, 0, none⟩) p c, .slice (some ad) (m - p) (c - (p + 1))]).run Try.prog w.drew = .ok (.slice (some ⟨g, 0, none⟩) m c) (w.drew.setRow g (cur.toList.take (p * 12) ++ (cellsOf rowC L).drop ((p + 1) * 12) ++ cur.toList.drop (p * 12 + ((cellsOf rowC L).drop ((p + 1) * 12)).length)).toArray) := fun ty => by
    have h := run_append_room (P := Try.prog) w.drew 53 ty 39 i hT hi g p c cur hg ad (m - p) (c - (p + 1)) _ (by rw [hz1]; exact hxl) hsrc h1x (by omega) (by rw [hz1, hxl, hcs]; omega)
    rw [hz1, show p + (m - p) = m by omega] at h
    exact h
  obtain ⟨C1, hC1⟩ : ∃ C1 : Array Value, (cur.toList.take (p * 12) ++ (cellsOf rowC L).drop ((p + 1) * 12) ++ cur.toList.drop (p * 12 + ((cellsOf rowC L).drop ((p + 1) * 12)).length)).toArray = C1 := ⟨_, rfl⟩
  have hC1s : C1.size = c * 12 := by
    rw [← hC1]; simp only [List.size_toArray, List.length_append, List.length_take, List.length_drop, Array.length_toList, rows_len]; omega
  rw [hC1] at hrA
  have hC1l : C1.toList.take (m * 12) = cellsOf rowC (L.take p ++ L.drop (p + 1)) := by rw [← HD, ← hC1, hm]; rfl
  have hg1 : (w.drew.setRow g C1).heap[g]? = some (.cells C1 39 (0, 0)) := setRow_heap w.drew g cur C1 _ _ hg
  obtain ⟨W1, hW1⟩ : ∃ W1, w.drew.setRow g C1 = W1 := ⟨_, rfl⟩
  rw [hW1] at hrA hg1
  have hrC : ∀ ty, (Builtin.clear_ #[53] ty #[.slice (some ⟨g, m * 12, none⟩) 1 (c - m)]).run Try.prog W1 = .ok (.tuple #[]) (W1.setRow g (C1.toList.take (m * 12) ++ (Builtin.zeroCells (Value.cells (.agg #[.int .i64 0, .int .i64 0, .int .i64 0, .int .i64 0, .int .i64 0, .int .i64 0, .int .i64 0, .int .i64 0, .slice none 0 0, .int .i64 0, .slice none 0 0, .slice none 0 0])) 1).toList ++ C1.toList.drop (m * 12 + 1 * 12)).toArray) := fun ty =>
    run_clear_at W1 53 39 ty 39 _ hT zero_lsa g (m * 12) 1 (c - m) (by omega) C1 (by intro v hv; simp [Value.cells] at hv; rcases hv with rfl | rfl | rfl | rfl | rfl | rfl | rfl | rfl | rfl | rfl | rfl | rfl <;> rfl) hg1 (by rw [hC1s]; show m * 12 + 1 * 12 ≤ c * 12; omega)
  obtain ⟨C2, hC2⟩ : ∃ C2 : Array Value, (C1.toList.take (m * 12) ++ (Builtin.zeroCells (Value.cells (.agg #[.int .i64 0, .int .i64 0, .int .i64 0, .int .i64 0, .int .i64 0, .int .i64 0, .int .i64 0, .int .i64 0, .slice none 0 0, .int .i64 0, .slice none 0 0, .slice none 0 0])) 1).toList ++ C1.toList.drop (m * 12 + 1 * 12)).toArray = C2 := ⟨_, rfl⟩
  rw [hC2] at hrC
  have hzl : (Builtin.zeroCells (Value.cells (.agg #[.int .i64 0, .int .i64 0, .int .i64 0, .int .i64 0, .int .i64 0, .int .i64 0, .int .i64 0, .int .i64 0, .slice none 0 0, .int .i64 0, .slice none 0 0, .slice none 0 0])) 1).toList.length = 12 := by simp [Builtin.zeroCells, Value.cells]
  have hC2s : C2.size = c * 12 := by
    rw [← hC2]; simp only [List.size_toArray, List.length_append, List.length_take, List.length_drop, Array.length_toList, hzl, hC1s]; omega
  have hC2l : C2.toList.take (m * 12) = cellsOf rowC (L.take p ++ L.drop (p + 1)) := by
    rw [← hC1l, ← hC2]
    simp only [List.append_assoc]
    rw [List.take_append_of_le_length (by rw [List.length_take, Array.length_toList, hC1s]; omega), List.take_take, Nat.min_self]
  have HE : Hid ((W1.setRow g C2).ownsRow N 39 12 (.slice (some ⟨g, 0, none⟩) m c) m (cellsOf rowC (L.take p ++ L.drop (p + 1))) ∧ w.grownBy (W1.setRow g C2) (some g)) := by
    refine ⟨⟨by rw [rows_len]; simp; omega, .inr ⟨g, c, C2, rfl, hNg, setRow_heap W1 g C1 C2 _ _ hg1, by omega, hcm, hC2s, hC2l⟩⟩, ?_⟩
    subst hW1
    exact ⟨rfl, rfl, rfl, by simp [World.setRow], fun k hk hne => by
      have hkg : k ≠ g := fun e => hne (by rw [e])
      rw [setRow_other _ g k C2 hkg, setRow_other _ g k C1 hkg]; rfl⟩
  rw [hm]
  have hcc : (m : Int) + 1 ≤ (c : Int) := by omega
  have hc63 : (c : Int) ≤ 9223372036854775807 := by unfold maxLen at hcm; omega
  have hpp : (p : Int) ≤ (m : Int) := by omega
  have hne : ¬ ((p : Int) = (p : Int) + 1) := by omega
  have hcm2 : ¬ (c = m) := by omega
  have hpN : p ≤ c := by omega
  have hpN1 : p + 1 ≤ m + 1 := by omega
  have hmN : m ≤ c := by omega
  have hp0 : (0 : Int) ≤ (p : Int) + 1 := by omega
  clear hC2 hC2s hC2l hzl hg1 hW1 hC1 hC1s hC1l hsrc h1x hxl HD hown hcs htk hg hm hp hl hcm hnc hz0 hz1 hz2 hi i
  go_enter Try.func41, Try.ntmps41
  go_upto_region 5 with fail
  go_region_law (refine step_append_runI rfl _ _ 53 53 rfl _ _ (by simp [Act.eval, Act.put]) (by simp [Act.eval, Act.put]) (hrA _) ?_)
  go_wp2_with (at_builtin; go_must (refine wpList_clear_runI W1 rfl _ 53 rfl _ rfl (hrC _) ?_))
  go_ret
  rw [Nat.add_sub_cancel]
  exact ⟨rfl, HE.out.1, HE.out.2⟩
end Go.Proofs.Ytmcemhkhgccojaa
/- Drop. -/
namespace Go.Proofs.Ytmcemhkhgccojaa
open Go.RowKit
set_option linter.unusedVariables false

/-- One fewer among the rows. -/
def delL (L : List Row) (p : Nat) : List Row := L.take p ++ L.drop (p + 1)
theorem delL_len (L : List Row) (p : Nat) (hp : p < L.length) : (delL L p).length = L.length - 1 := by unfold delL; simp; omega
theorem delL_mem {L : List Row} {p : Nat} {x : Row} (h : x ∈ delL L p) : x ∈ L := by
  unfold delL at h
  rcases List.mem_append.1 h with h | h
  · exact List.mem_of_mem_take h
  · exact List.mem_of_mem_drop h
set_option maxHeartbeats 1600000 in
theorem drop_no (N b : Nat) (most : Int) (lv : Value) (L : List Row) (k : KeyZ) (w : World) (h : Keeps w N b most lv L) (ht : thereB L k = false) : Calls Try.prog 16 #[.pointer (some ⟨b, 0, none⟩), .agg (keyV k)] w fun e w' => e = .returned (.bool false) ∧ Below w.heap.size w w' := by
  have HB : Hid (Below w.heap.size w (w.alloc (.cells (keyV k) 41))) := below_new' _ _
  have HK0 : Hid (Var (w.alloc (.cells (keyV k) 41)) w.heap.size [.int .i64 k.kind, .int .i64 k.id, .int .i64 k.adv]) := var_new w [.int .i64 k.kind, .int .i64 k.id, .int .i64 k.adv] _
  have CF := fun X hX => find_any N b most lv L k X (h.below hX)
  rw [ht] at CF
  clear h ht
  go_enter Try.func16, Try.ntmps16
  go_upto_region 1 with fail
  generalize w.alloc (.cells (keyV k) 41) = W at *
  have d0 := HK0.out.cell 0 rfl
  have d1 := HK0.out.cell 1 rfl
  have d2 := HK0.out.cell 2 rfl
  have CF2 := CF W HB.out
  clear CF
  go_wp2_with fail
  refine CF2.mono ?_
  rintro e w2 ⟨rfl, hb⟩
  have HB2 : Hid (Below w.heap.size w w2) := below_more HB.out hb HB.out.size
  clear hb CF2 d0 d1 d2
  go_wp2
  go_ret
  exact ⟨rfl, HB2.out⟩
set_option maxHeartbeats 1600000 in
theorem drop_yes (N b : Nat) (most : Int) (lv : Value) (L : List Row) (k : KeyZ) (w : World) (h : Keeps w N b most lv L) (ht : thereB L k = true) : Calls Try.prog 16 #[.pointer (some ⟨b, 0, none⟩), .agg (keyV k)] w fun e w' => e = .returned (.bool true) ∧ ∃ lv', Keeps w' N b most lv' (delL L (posZ L k)) ∧ Turned b lv.ownBlock w w' ∧ lv'.ownBlock = lv.ownBlock := by
  obtain ⟨hp, -⟩ := thereB_yes ht
  obtain ⟨a, c, rfl, hL, hLc, hcm, hanil, hag⟩ := h.lies
  obtain ⟨g, rfl⟩ : ∃ g, a = some ⟨g, 0, none⟩ := by
    rcases a with _ | x
    · exfalso; have := hanil rfl; omega
    · obtain ⟨g, rfl, -⟩ := hag _ rfl; exact ⟨g, rfl⟩
  have HB : Hid (Below w.heap.size w (w.alloc (.cells (keyV k) 41))) := below_new' _ _
  have HK0 : Hid (Var (w.alloc (.cells (keyV k) 41)) w.heap.size [.int .i64 k.kind, .int .i64 k.id, .int .i64 k.adv]) := var_new w [.int .i64 k.kind, .int .i64 k.id, .int .i64 k.adv] _
  have CF := fun X hX => find_any N b most _ L k X (h.below hX)
  rw [ht] at CF
  have HK : Hid (Keeps w N b most (.slice (some ⟨g, 0, none⟩) L.length c) L) := h
  have hlen : L.length ≤ 1000000 := h.len
  have hpI : (posZ L k : Int) + 1 ≤ (L.length : Int) := by omega
  have HP : Hid (posZ L k < L.length) := hp
  clear h ht hL hLc hcm hanil hag hp
  obtain ⟨p, hpe⟩ : ∃ p, posZ L k = p := ⟨_, rfl⟩
  rw [hpe] at CF hpI HP ⊢
  clear hpe
  go_enter Try.func16, Try.ntmps16
  go_upto_region 1 with fail
  generalize w.alloc (.cells (keyV k) 41) = W at *
  have d0 := HK0.out.cell 0 rfl
  have d1 := HK0.out.cell 1 rfl
  have d2 := HK0.out.cell 2 rfl
  have CF2 := CF W HB.out
  clear CF
  go_wp2_with fail
  refine CF2.mono ?_
  rintro e w2 ⟨rfl, hb⟩
  have HB2 : Hid (Below w.heap.size w w2) := below_more HB.out hb HB.out.size
  clear hb CF2 d0 d1 d2 HK0 HB
  have b1 := (HK.out.below HB2.out).obj.cell 1 rfl
  have CD := del_any N g c L p w2 (HK.out.below HB2.out).own (by omega) HP.out
  go_wp2_with fail
  refine CD.mono ?_
  rintro e w3 ⟨rfl, ho, hg⟩
  have HO : Hid (w3.ownsRow N 39 12 (.slice (some ⟨g, 0, none⟩) (L.length - 1) c) (L.length - 1) (cellsOf rowC (delL L p)) ∧ w2.grownBy w3 (some g)) := ⟨ho, hg⟩
  have hbb : w3.heap[b]? = w2.heap[b]? := hg.block b (HK.out.below HB2.out).obj.lt (fun e => (HK.out.below HB2.out).ne e.symm)
  have hv : Var w3 b [.int .i64 most, .slice (some ⟨g, 0, none⟩) L.length c] := by
    obtain ⟨t, ho'⟩ := (HK.out.below HB2.out).obj
    exact ⟨t, by rw [hbb]; exact ho'⟩
  have q1 := hv.cell 1 rfl
  have q2 := hv.frozen 1
  have HBB : Hid (w3.heap[b]? = w2.heap[b]?) := hbb
  clear ho hg hbb hv b1 CD
  go_wp2
  go_ret
  have hK2 := HK.out.below HB2.out
  refine ⟨rfl, .slice (some ⟨g, 0, none⟩) (L.length - 1) c, ?_, ?_, rfl⟩
  · refine hK2.put (M := delL L p) (by rw [delL_len L p HP.out]; exact HO.out.1) (Turned.grown HO.out.2) HBB.out (.inl rfl) (fun r hr => hK2.row (delL_mem hr)) (rising_erase hK2.rising p) (by rw [delL_len L p HP.out]; omega)
  · exact ((Turned.of b _ HB2.out).trans (Turned.grown HO.out.2)).trans (Turned.set b _ w3 ⟨b, 1, none⟩ _ (.inl rfl))
end Go.Proofs.Ytmcemhkhgccojaa
