/- Rows of a database: append and clear at a step; their cells. -/
import Derived.Test.YtmcemhkhgccojaaY8E
import Derived.Test.YtmcemhkhgccojaaX8B
namespace Go.Proofs.Ytmcemhkhgccojaa
open Go.RowKit Go.Lib

theorem step_append_runI {P : Program} {ops : Array Oper} {o : Oper} {a : Act} {w : World} {K : Act → World → Prop} {Q : Exit → Act → World → Prop} {E : Prop}
    (hg : o.guard = none) (d x : Operand) (dT sT : TypeId) (hop : o.op = Op.call { callee := Callee.builtin Builtin.append, args := #[d, x], argTypes := #[dT, sT] })
    (v u : Value) (hd : a.eval d = v) (hx : a.eval x = u) {v' : Value} {w' : World} (hr : (Builtin.append_ #[dT, sT] o.type #[v, u]).run P w = .ok v' w') (hK : K (a.put o.dst v') w') :
    if Region.wanted o (yielded ops a.tmps) = true then Oper.wp P o a w K Q else E := by
  have hw : Region.wanted o (yielded ops a.tmps) = true := by simp [Region.wanted, hg]
  rw [if_pos hw]
  unfold Oper.wp
  simp [execOp, hop, resolve, invoke, builtin, hd, hx, hr, Result.andThen]
  exact hK
theorem wpList_clear_runI {P : Program} (w : World) {ops : Array Oper} {rest : List Oper} {o : Oper} {a : Act} {Q : Exit → Act → World → Prop} (hgd : o.guard = none) (d : Operand) (t : TypeId)
    (ho : o.op = .call { callee := .builtin .clear, args := #[d], argTypes := #[t] }) (v : Value) (hd : a.eval d = v) {v' : Value} {w' : World}
    (hr : (Builtin.clear_ #[t] o.type #[v]).run P w = .ok v' w') (h : wpList P ops Q rest (a.put o.dst v') w') : wpList P ops Q (o :: rest) a w :=
  wpList_plain hgd fun _ hK => by
    unfold Oper.wp execOp
    simp only [ho, resolve, invoke, builtin, Sem.run_bind, Sem.run_pure, Result.andThen_ok, List.map_toArray, List.map_cons, List.map_nil, hd, hr]
    exact hK _ _ h
theorem zero_lsa : ∀ w, (zeroValue 39).run Try.prog w = .ok (.agg #[.int .i64 0, .int .i64 0, .int .i64 0, .int .i64 0, .int .i64 0, .int .i64 0, .int .i64 0, .int .i64 0, .slice none 0 0, .int .i64 0, .slice none 0 0, .slice none 0 0]) w := Try.zeroValue39
theorem cells_app (L M : List Row) : cellsOf rowC (L ++ M) = cellsOf rowC L ++ cellsOf rowC M := by unfold cellsOf; rw [List.flatMap_append]
theorem cells_take (L : List Row) (p : Nat) : (cellsOf rowC L).take (p * 12) = cellsOf rowC (L.take p) := by
  induction L generalizing p with
  | nil => simp [cellsOf]
  | cons r L ih =>
    rcases p with _ | p
    · simp [cellsOf]
    · have e : cellsOf rowC (r :: L) = rowC r ++ cellsOf rowC L := rfl
      rw [e, List.take_succ_cons, show cellsOf rowC (r :: L.take p) = rowC r ++ cellsOf rowC (L.take p) from rfl, List.take_append, List.take_of_length_le (by rw [rowC_length]; omega), rowC_length, show (p + 1) * 12 - 12 = p * 12 by omega, ih]
theorem cells_drop (L : List Row) (p : Nat) : (cellsOf rowC L).drop (p * 12) = cellsOf rowC (L.drop p) := by
  induction L generalizing p with
  | nil => simp [cellsOf]
  | cons r L ih =>
    rcases p with _ | p
    · simp
    · have e : cellsOf rowC (r :: L) = rowC r ++ cellsOf rowC L := rfl
      rw [e, List.drop_succ_cons, List.drop_append, List.drop_of_length_le (by rw [rowC_length]; omega), rowC_length, show (p + 1) * 12 - 12 = p * 12 by omega, ih, List.nil_append]
end Go.Proofs.Ytmcemhkhgccojaa
/- One more in the middle of rows of a database (slices.Insert): where there is room. -/
namespace Go.Proofs.Ytmcemhkhgccojaa
open Go.RowKit Go.Lib

theorem ins_cells (L : List Row) (p : Nat) (r : Row) (hp : p ≤ L.length) (cur c1 : List Value) (hc : cur.take (L.length * 12) = cellsOf rowC L)
    (h1 : c1 = cur.take ((p + 1) * 12) ++ (cellsOf rowC L).drop (p * 12) ++ cur.drop ((L.length + 1) * 12)) (hl : (L.length + 1) * 12 ≤ cur.length) :
    (c1.take (p * 12) ++ rowC r ++ c1.drop (p * 12 + 12)).take ((L.length + 1) * 12) = cellsOf rowC (L.take p ++ r :: L.drop p) := by
  have hx := rows_len L
  have e1 : cur.take (p * 12) = cellsOf rowC (L.take p) := by rw [← cells_take, ← hc, List.take_take]; congr 1; omega
  have e2 : c1.take (p * 12) = cellsOf rowC (L.take p) := by
    rw [h1, List.append_assoc, List.take_append_of_le_length (by rw [List.length_take]; omega), List.take_take, ← e1]; congr 1; omega
  have e3 : c1.drop (p * 12 + 12) = cellsOf rowC (L.drop p) ++ cur.drop ((L.length + 1) * 12) := by
    rw [h1, List.append_assoc, List.drop_append, List.drop_of_length_le (by rw [List.length_take]; omega), List.length_take, show p * 12 + 12 - min ((p + 1) * 12) cur.length = 0 by omega, cells_drop]; rfl
  rw [e2, e3, show cellsOf rowC (L.take p ++ r :: L.drop p) = cellsOf rowC (L.take p) ++ rowC r ++ cellsOf rowC (L.drop p) by rw [cells_app, List.append_assoc]; rfl, ← List.append_assoc]
  have h2 := rows_len (L.take p)
  have h3 := rows_len (L.drop p)
  rw [List.take_append_of_le_length (by simp only [List.length_append, rowC_length, h2, h3, List.length_take, List.length_drop]; omega), List.take_of_length_le (by simp only [List.length_append, rowC_length, h2, h3, List.length_take, List.length_drop]; omega)]
set_option maxHeartbeats 1600000 in
set_option maxRecDepth 100000 in
theorem ins_shift (N g c : Nat) (L : List Row) (p vb : Nat) (r : Row) (w : World) (hown : w.ownsRow N 39 12 (.slice (some ⟨g, 0, none⟩) L.length c) L.length (cellsOf rowC L)) (hp : p < L.length) (hroom : L.length + 1 ≤ c)
    (hvb : w.heap[vb]? = some (.cells (rowC r).toArray 39 (0, 0))) (hne : vb ≠ g) :
    Calls Try.prog 35 #[.slice (some ⟨g, 0, none⟩) L.length c, .int .i64 p, .slice (some ⟨vb, 0, none⟩) 1 1] w (InsEnd w N (.slice (some ⟨g, 0, none⟩) L.length c) (L.take p ++ r :: L.drop p)) := by
  obtain ⟨i, hi, hz0, hz1, hz2⟩ := info_parts info_lsa
  obtain ⟨cur, hNg, hg, hcm, hcs, htk⟩ : ∃ cur, N ≤ g ∧ w.heap[g]? = some (.cells cur 39 (0, 0)) ∧ c ≤ maxLen ∧ cur.size = c * 12 ∧ cur.toList.take (L.length * 12) = cellsOf rowC L := by
    rcases hown.2 with ⟨h1, h2⟩ | ⟨g', cap, cur, h1, h2, h3, h4, h5, h6, h7⟩
    · simp at h1
    · simp only [Value.slice.injEq, Option.some.injEq, Addr.mk.injEq, and_true, true_and] at h1
      obtain ⟨rfl, rfl⟩ := h1
      exact ⟨cur, h2, h3, h5, h6, h7⟩
  have hT : Try.prog.underlying 53 = some (.slice 39) := Try.underlying53
  have hov : ∀ lb cb, (callFunc 52 #[.slice (some ⟨vb, 0, none⟩) 1 1, .slice (some ⟨g, (p + 1) * 12, none⟩) lb cb]).run Try.prog w = .ok (.value (.bool false)) w := fun lb cb => by
    rw [run_callFunc_extern Try.func52 (by kernel_rfl) (by kernel_rfl) (by kernel_rfl) (e := Extern.SlicesOverlaps.overlaps #[53, 53] #[4]) (by kernel_rfl),
      Lib.run_overlaps_apart w 53 4 39 hT 12 Try.sizeOf39 ⟨vb, 0, none⟩ ⟨g, (p + 1) * 12, none⟩ 1 1 lb cb hne 39 39 12 (c * 12) (by simp [World.shape?, hvb, rowC_length]) (by simp [World.shape?, hg, hcs]) (by omega) (by simp [World.frozen?, hvb]) (by simp [World.frozen?, hvb])]
    rfl
  have hcl : cur.toList.length = c * 12 := by simpa using hcs
  have hx := rows_len L
  have hxl : ((cellsOf rowC L).drop (p * 12)).length = (L.length - p) * 12 := by rw [List.length_drop, hx]; omega
  have h1x : ∀ u ∈ (cellsOf rowC L).drop (p * 12), u.oneCell' = true := fun u hu => rows_one L u (List.mem_of_mem_drop hu)
  obtain ⟨C1, hC1⟩ : ∃ C1 : Array Value, (cur.toList.take ((p + 1) * 12) ++ (cellsOf rowC L).drop (p * 12) ++ cur.toList.drop ((p + 1) * 12 + ((cellsOf rowC L).drop (p * 12)).length)).toArray = C1 := ⟨_, rfl⟩
  have hrA : ∀ ty, (Builtin.copy_ #[53, 53] ty #[.slice (some ⟨g, (p + 1) * 12, none⟩) (L.length + 1 - (p + 1)) (c - (p + 1)), .slice (some ⟨g, p * 12, none⟩) (L.length + 1 - p) (c - p)]).run Try.prog w.drew = .ok (goInt (L.length - p : Nat)) (w.drew.setRow g C1) := fun ty => by
    rw [← hC1]
    exact run_copy_at (P := Try.prog) w.drew _ _ ty 39 i g ((p + 1) * 12) (L.length + 1 - (p + 1)) (c - (p + 1)) ⟨g, p * 12, none⟩ (L.length + 1 - p) (c - p) (L.length - p) cur 39 _ hT hi hg (by simp only [Nat.min_def]; split <;> omega) (by rw [hz1]; exact hxl) (fun j u hu => by
      rw [addr_add]
      rw [List.getElem?_drop] at hu
      have := World.ownsRow.cells hown (g := g) rfl _ u hu
      rw [addr_add, Nat.zero_add] at this
      exact this) (by rw [hxl, hcs]; omega) h1x
  have hC1s : C1.size = c * 12 := by
    rw [← hC1]; simp only [List.size_toArray, List.length_append, List.length_take, List.length_drop, Array.length_toList, hx]; omega
  have hg1 : (w.drew.setRow g C1).heap[g]? = some (.cells C1 39 (0, 0)) := setRow_heap w.drew g cur C1 _ _ hg
  have hvb1 : (w.drew.setRow g C1).heap[vb]? = some (.cells (rowC r).toArray 39 (0, 0)) := by rw [setRow_other _ g vb C1 hne]; exact hvb
  obtain ⟨W1, hW1⟩ : ∃ W1, w.drew.setRow g C1 = W1 := ⟨_, rfl⟩
  rw [hW1] at hrA hg1 hvb1
  obtain ⟨C2, hC2⟩ : ∃ C2 : Array Value, (C1.toList.take (p * 12) ++ rowC r ++ C1.toList.drop (p * 12 + (rowC r).length)).toArray = C2 := ⟨_, rfl⟩
  have hrC : ∀ ty, (Builtin.copy_ #[53, 53] ty #[.slice (some ⟨g, p * 12, none⟩) (L.length + 1 - p) (c - p), .slice (some ⟨vb, 0, none⟩) 1 1]).run Try.prog W1 = .ok (goInt (1 : Nat)) (W1.setRow g C2) := fun ty => by
    rw [← hC2]
    exact run_copy_at (P := Try.prog) W1 _ _ ty 39 i g (p * 12) (L.length + 1 - p) (c - p) ⟨vb, 0, none⟩ 1 1 1 C1 39 _ hT hi hg1 (by simp only [Nat.min_def]; split <;> omega) (by rw [hz1]; rfl) (fun j u hu => by rw [addr_add, Nat.zero_add]; simp [World.cell?, hvb1]; exact hu) (by rw [hC1s, rowC_length]; omega) (rowC_one r)
  have hC2s : C2.size = c * 12 := by
    rw [← hC2]; simp only [List.size_toArray, List.length_append, List.length_take, List.length_drop, Array.length_toList, rowC_length, hC1s]; omega
  have hC2l : C2.toList.take ((L.length + 1) * 12) = cellsOf rowC (L.take p ++ r :: L.drop p) := by
    have := ins_cells L p r (by omega) cur.toList C1.toList htk (by rw [← hC1, hxl, show (p + 1) * 12 + (L.length - p) * 12 = (L.length + 1) * 12 by omega]) (by omega)
    rw [← hC2, rowC_length]
    exact this
  have HE : Hid ((W1.setRow g C2).ownsRow N 39 12 (.slice (some ⟨g, 0, none⟩) (L.length + 1) c) (L.length + 1) (cellsOf rowC (L.take p ++ r :: L.drop p)) ∧ w.grownBy (W1.setRow g C2) (some g)) := by
    refine ⟨⟨by rw [rows_len]; simp; omega, .inr ⟨g, c, C2, rfl, hNg, setRow_heap W1 g C1 C2 _ _ hg1, hroom, hcm, hC2s, hC2l⟩⟩, ?_⟩
    subst hW1
    exact ⟨rfl, rfl, rfl, by simp [World.setRow], fun k hk hne => by
      have hkg : k ≠ g := fun e => hne (by rw [e])
      rw [setRow_other _ g k C2 hkg, setRow_other _ g k C1 hkg]; rfl⟩
  have hML : (L.take p ++ r :: L.drop p).length = L.length + 1 := by simp; omega
  have hcc : (L.length : Int) + 1 ≤ (c : Int) := by omega
  have hc63 : (c : Int) ≤ 9223372036854775807 := by unfold maxLen at hcm; omega
  have hpp : (p : Int) + 1 ≤ (L.length : Int) := by omega
  have hne2 : ¬ ((p : Int) = (L.length : Int)) := by omega
  have hn1 : ¬ (c = p) := by omega
  have hn2 : ¬ (c = p + 1) := by omega
  have hpN : p ≤ c := by omega
  have hnN : L.length + 1 ≤ c := by omega
  have hpN1 : p + 1 ≤ L.length + 1 := by omega
  have hp0 : (0 : Int) ≤ (p : Int) + 1 := by omega
  have hw1 : IntKind.i64.wrap ((p : Int) + 1) = (p : Int) + 1 := by rw [IntKind.wrap_i64]; omega
  have htn : ((p : Int) + 1).toNat = p + 1 := by omega
  have hb3 : (p : Int) ≤ (L.length : Int) + 1 := by omega
  have hb4 : (p : Int) + 1 ≤ (L.length : Int) + 1 := by omega
  clear hcl hC2 hC2s hC2l hg1 hvb1 hW1 hC1 hC1s h1x hxl hx hown hcs htk hg hcm hz0 hz1 hz2 hi i hvb hp hroom
  go_enter Try.func35, Try.ntmps35
  go_wp2_with (simp only [hov])
  go_region_law (refine step_copy_runI rfl _ _ 53 53 rfl _ _ (by simp [Act.eval, Act.put]) (by simp [Act.eval, Act.put]) (hrA _) ?_)
  go_wp2_with (at_builtin; go_must (refine wpList_copy_runI W1 rfl _ _ 53 53 rfl _ _ rfl rfl (hrC _) ?_))
  go_ret
  exact ⟨_, rfl, by rw [hML]; exact HE.out.1, HE.out.2, .inl rfl⟩
end Go.Proofs.Ytmcemhkhgccojaa
/- One more in the middle of rows of a database (slices.Insert): where there is no room. -/
namespace Go.Proofs.Ytmcemhkhgccojaa
open Go.RowKit Go.Lib
set_option linter.unusedVariables false

theorem ins_cells2 (L : List Row) (p : Nat) (r : Row) (hp : p ≤ L.length) (row c1 : List Value) (hc : row.take (p * 12) = cellsOf rowC (L.take p))
    (h1 : c1 = row.take (p * 12) ++ rowC r ++ row.drop (p * 12 + 12)) :
    (c1.take ((p + 1) * 12) ++ (cellsOf rowC L).drop (p * 12) ++ c1.drop ((p + 1) * 12 + ((cellsOf rowC L).drop (p * 12)).length)).take ((L.length + 1) * 12) = cellsOf rowC (L.take p ++ r :: L.drop p) := by
  have e2 : c1.take ((p + 1) * 12) = cellsOf rowC (L.take p) ++ rowC r := by
    rw [h1, hc, List.take_append_of_le_length (by rw [List.length_append, rows_len, rowC_length, List.length_take]; omega), List.take_of_length_le (by rw [List.length_append, rows_len, rowC_length, List.length_take]; omega)]
  rw [e2, cells_drop, show cellsOf rowC (L.take p ++ r :: L.drop p) = cellsOf rowC (L.take p) ++ rowC r ++ cellsOf rowC (L.drop p) by rw [cells_app, List.append_assoc]; rfl]
  have h2 := rows_len (L.take p)
  have h3 := rows_len (L.drop p)
  rw [List.take_append_of_le_length (by simp only [List.length_append, rowC_length, h2, h3, List.length_take, List.length_drop]; omega), List.take_of_length_le (by simp only [List.length_append, rowC_length, h2, h3, List.length_take, List.length_drop]; omega)]
set_option maxHeartbeats 1600000 in
set_option maxRecDepth 100000 in
theorem ins_grow (N g c : Nat) (L : List Row) (p vb : Nat) (r : Row) (w : World) (hN : N ≤ w.heap.size) (hown : w.ownsRow N 39 12 (.slice (some ⟨g, 0, none⟩) L.length c) L.length (cellsOf rowC L)) (hl : L.length ≤ 1000000000) (hp : p < L.length) (hroom : ¬ L.length + 1 ≤ c)
    (hvb : w.heap[vb]? = some (.cells (rowC r).toArray 39 (0, 0))) (hne : vb ≠ g) :
    Calls Try.prog 35 #[.slice (some ⟨g, 0, none⟩) L.length c, .int .i64 p, .slice (some ⟨vb, 0, none⟩) 1 1] w (InsEnd w N (.slice (some ⟨g, 0, none⟩) L.length c) (L.take p ++ r :: L.drop p)) := by
  obtain ⟨i, hi, hz0, hz1, hz2⟩ := info_parts info_lsa
  obtain ⟨cur, hg, hnc, hcs, htk⟩ : ∃ cur, w.heap[g]? = some (.cells cur 39 (0, 0)) ∧ L.length ≤ c ∧ cur.size = c * 12 ∧ cur.toList.take (L.length * 12) = cellsOf rowC L := by
    rcases hown.2 with ⟨h1, h2⟩ | ⟨g', cap, cur, h1, h2, h3, h4, h5, h6, h7⟩
    · simp at h1
    · simp only [Value.slice.injEq, Option.some.injEq, Addr.mk.injEq, and_true, true_and] at h1
      obtain ⟨rfl, rfl⟩ := h1
      exact ⟨cur, h3, h4, h6, h7⟩
  obtain rfl : c = L.length := by omega
  have hT : Try.prog.underlying 53 = some (.slice 39) := Try.underlying53
  have hgw : g < w.heap.size := (Array.getElem?_eq_some_iff.1 hg).1
  have hvw : vb < w.heap.size := (Array.getElem?_eq_some_iff.1 hvb).1
  have hx := rows_len L
  have hsrc : ∀ k j u, ((cellsOf rowC L).drop k)[j]? = some u → w.cell? ⟨g, k + j, none⟩ = some u := fun k j u hu => by
    rw [List.getElem?_drop] at hu
    have := World.ownsRow.cells hown (g := g) rfl _ u hu
    rw [addr_add, Nat.zero_add] at this
    exact this
  have hold : (Builtin.firstCells i.size p (.slice (some ⟨g, 0, none⟩) p L.length)).run Try.prog w.drew = .ok (cellsOf rowC (L.take p)).toArray w.drew := by
    rw [hz1]
    refine run_firstCells_some (P := Try.prog) w.drew 12 p ⟨g, 0, none⟩ p L.length _ (by rw [rows_len, List.length_take]; omega) (fun j u hu => ?_)
    rw [addr_add, ← cells_take] at *
    rw [List.getElem?_take] at hu
    split at hu
    · exact hsrc 0 j u hu
    · cases hu
  obtain ⟨G, hG⟩ : ∃ G, grownCap w (L.length + 1) L.length 39 = G := ⟨_, rfl⟩
  have hGn : L.length + 1 ≤ G := by rw [← hG]; exact grownCap_ge w _ _ _
  have hGm : G ≤ maxLen := by rw [← hG]; exact grownCap_le_maxLen w _ _ _ (by unfold maxLen; omega)
  obtain ⟨ROW, hROW⟩ : ∃ ROW : Array Value, (cellsOf rowC (L.take p)).toArray ++ Builtin.zeroCells (Value.cells (.agg #[.int .i64 0, .int .i64 0, .int .i64 0, .int .i64 0, .int .i64 0, .int .i64 0, .int .i64 0, .int .i64 0, .slice none 0 0, .int .i64 0, .slice none 0 0, .slice none 0 0])) (L.length + 1 - p) ++ Builtin.zeroCells (Value.cells (.agg #[.int .i64 0, .int .i64 0, .int .i64 0, .int .i64 0, .int .i64 0, .int .i64 0, .int .i64 0, .int .i64 0, .slice none 0 0, .int .i64 0, .slice none 0 0, .slice none 0 0])) (G - (L.length + 1)) = ROW := ⟨_, rfl⟩
  have hRs : ROW.size = G * 12 := by
    rw [← hROW]
    simp only [Array.size_append, size_zeroCells, List.size_toArray, rows_len, List.length_take]
    show _ + (L.length + 1 - p) * 12 + (G - (L.length + 1)) * 12 = _
    omega
  have hRt : ROW.toList.take (p * 12) = cellsOf rowC (L.take p) := by
    rw [← hROW]
    simp only [Array.toList_append, List.append_assoc]
    rw [List.take_append_of_le_length (by rw [rows_len, List.length_take]; omega), List.take_of_length_le (by rw [rows_len, List.length_take]; omega)]
  have hrZ : ∀ ty, (Builtin.append_ #[53, 3] ty #[.slice (some ⟨g, 0, none⟩) p L.length, .int .i64 ((L.length : Int) + 1 - (p : Int))]).run Try.prog w = .ok (.slice (some ⟨w.heap.size, 0, none⟩) (L.length + 1) G) (w.drew.alloc (.cells ROW 39)) := fun ty => by
    have hk : p + (L.length + 1 - p) = L.length + 1 := by omega
    have h := Lib.run_append_grow_zeros (P := Try.prog) w 53 3 ty 39 i _ .i64 .i64 hT Try.underlying3 hi hz0 (some ⟨g, 0, none⟩) p L.length (cellsOf rowC (L.take p)) hold (L.length + 1 - p) (by omega) (by omega) (by omega) (by omega) (by rw [hz2]; omega) (by rw [hz2, hk]; exact growslice_fits (by omega) (by omega))
    rw [hk, hG, hROW, show ((L.length + 1 - p : Nat) : Int) = (L.length : Int) + 1 - (p : Int) by omega] at h
    exact h
  obtain ⟨C1, hC1⟩ : ∃ C1 : Array Value, (ROW.toList.take (p * 12) ++ rowC r ++ ROW.toList.drop (p * 12 + (rowC r).length)).toArray = C1 := ⟨_, rfl⟩
  have hrA : ∀ W : World, W.heap = (w.drew.alloc (.cells ROW 39)).heap → ∀ ty, (Builtin.copy_ #[53, 53] ty #[.slice (some ⟨w.heap.size, p * 12, none⟩) (L.length + 1 - p) (G - p), .slice (some ⟨vb, 0, none⟩) 1 1]).run Try.prog W = .ok (goInt (1 : Nat)) (W.setRow w.heap.size C1) := fun W hW ty => by
    rw [← hC1]
    refine run_copy_at (P := Try.prog) W _ _ ty 39 i w.heap.size (p * 12) (L.length + 1 - p) (G - p) ⟨vb, 0, none⟩ 1 1 1 ROW 39 _ hT hi (by rw [hW]; exact heap_alloc_new w.drew _) (by simp only [Nat.min_def]; split <;> omega) (by rw [hz1]; rfl) (fun j u hu => ?_) (by rw [hRs, rowC_length]; omega) (rowC_one r)
    rw [addr_add, Nat.zero_add]
    have : W.heap[vb]? = some (.cells (rowC r).toArray 39 (0, 0)) := by rw [hW, heap_alloc_old w.drew _ hvw]; exact hvb
    simp [World.cell?, this]; exact hu
  have hC1s : C1.size = G * 12 := by
    rw [← hC1]; simp only [List.size_toArray, List.length_append, List.length_take, List.length_drop, Array.length_toList, rowC_length, hRs]; omega
  obtain ⟨C2, hC2⟩ : ∃ C2 : Array Value, (C1.toList.take ((p + 1) * 12) ++ (cellsOf rowC L).drop (p * 12) ++ C1.toList.drop ((p + 1) * 12 + ((cellsOf rowC L).drop (p * 12)).length)).toArray = C2 := ⟨_, rfl⟩
  have hxl : ((cellsOf rowC L).drop (p * 12)).length = (L.length - p) * 12 := by rw [List.length_drop, hx]; omega
  have hrB : ∀ W : World, W.heap = ((w.drew.alloc (.cells ROW 39)).setRow w.heap.size C1).heap → ∀ ty, (Builtin.copy_ #[53, 53] ty #[.slice (some ⟨w.heap.size, (p + 1) * 12, none⟩) (L.length + 1 - (p + 1)) (G - (p + 1)), .slice (some ⟨g, p * 12, none⟩) (L.length - p) (L.length - p)]).run Try.prog W = .ok (goInt (L.length - p : Nat)) (W.setRow w.heap.size C2) := fun W hW ty => by
    rw [← hC2]
    refine run_copy_at (P := Try.prog) W _ _ ty 39 i w.heap.size ((p + 1) * 12) (L.length + 1 - (p + 1)) (G - (p + 1)) ⟨g, p * 12, none⟩ (L.length - p) (L.length - p) (L.length - p) C1 39 _ hT hi (by rw [hW]; exact setRow_heap _ _ _ _ _ _ (heap_alloc_new w.drew _)) (by simp only [Nat.min_def]; split <;> omega) (by rw [hz1]; exact hxl) (fun j u hu => ?_) (by rw [hxl, hC1s]; omega) (fun u hu => rows_one L u (List.mem_of_mem_drop hu))
    rw [addr_add, ← hsrc (p * 12) j u hu]
    refine World.cell?_of_block ?_
    show W.heap[g]? = w.heap[g]?
    rw [hW, setRow_other _ _ g C1 (by omega), heap_alloc_old w.drew _ hgw]; rfl
  have hC2s : C2.size = G * 12 := by
    rw [← hC2]; simp only [List.size_toArray, List.length_append, List.length_take, List.length_drop, Array.length_toList, hx, hC1s]; omega
  have hC2l : C2.toList.take ((L.length + 1) * 12) = cellsOf rowC (L.take p ++ r :: L.drop p) := by
    have := ins_cells2 L p r (by omega) ROW.toList C1.toList hRt (by rw [← hC1]; rfl)
    rw [← hC2]
    exact this
  have hML : (L.take p ++ r :: L.drop p).length = L.length + 1 := by simp; omega
  have HE : Hid (∀ W : World, W.heap = (((w.drew.alloc (.cells ROW 39)).setRow w.heap.size C1).setRow w.heap.size C2).heap → W.os = w.os → W.tape = w.tape → W.output = w.output → InsEnd w N (.slice (some ⟨g, 0, none⟩) L.length L.length) (L.take p ++ r :: L.drop p) (.returned (.slice (some ⟨w.heap.size, 0, none⟩) (L.length + 1) G)) W) := by
    intro W hW h1 h2 h3
    refine ⟨_, rfl, ?_, ⟨h1, h2, h3, by rw [hW]; simp [World.setRow], fun k hk _ => ?_⟩, .inr fun k hk => ?_⟩
    · rw [hML]
      refine ⟨by rw [rows_len, hML], .inr ⟨w.heap.size, G, C2, rfl, hN, ?_, hGn, hGm, hC2s, hC2l⟩⟩
      rw [hW]
      exact setRow_heap _ _ C1 _ _ _ (setRow_heap _ _ _ _ _ _ (heap_alloc_new w.drew _))
    · rw [hW, setRow_other _ _ k C2 (by omega), setRow_other _ _ k C1 (by omega), heap_alloc_old w.drew _ hk]; rfl
    · simp [Value.ownBlock] at hk; omega
  have hpp : (p : Int) + 1 ≤ (L.length : Int) := by omega
  have hne2 : ¬ ((p : Int) = (L.length : Int)) := by omega
  have hn1 : ¬ (G = p) := by omega
  have hn2 : ¬ (G = p + 1) := by omega
  have hn3 : ¬ (L.length = p) := by omega
  have hpN : p ≤ L.length := by omega
  have hpN1 : p + 1 ≤ L.length + 1 := by omega
  have hp0 : (0 : Int) ≤ (p : Int) + 1 := by omega
  have hw1 : IntKind.i64.wrap ((p : Int) + 1) = (p : Int) + 1 := by rw [IntKind.wrap_i64]; omega
  have htn : ((p : Int) + 1).toNat = p + 1 := by omega
  have hb3 : (p : Int) ≤ (L.length : Int) + 1 := by omega
  have hb4 : (p : Int) + 1 ≤ (L.length : Int) + 1 := by omega
  have hlI : (L.length : Int) ≤ 1000000000 := by omega
  have hrA1 := hrA ((w.alloc (.cells ROW 39)).drew) rfl
  have hrB1 := hrB ((((w.alloc (.cells ROW 39)).drew).setRow w.heap.size C1).drew) rfl
  clear hrA hrB
  clear hC2l hC2s hxl hC2 hC1s hC1 hRt hRs hROW hGm hGn hG hold hsrc hx htk hcs hnc hg hown hvb hne hgw hvw hz0 hz1 hz2 hi i hN hp hroom hML
  go_enter Try.func35, Try.ntmps35
  go_wp2_with (first
    | (at_builtin; refine Lib.wpList_append_run _ rfl _ _ _ _ rfl _ _ rfl rfl _ _ (hrZ _) ?_)
    | (at_builtin; refine wpList_copy_runI _ rfl _ _ 53 53 rfl _ _ rfl rfl (hrA1 _) ?_))
  go_region_law (refine step_copy_runI rfl _ _ 53 53 rfl _ _ (by simp [Act.eval, Act.put]) (by simp [Act.eval, Act.put]) (hrB1 _) ?_)
  go_wp2
  go_ret
  exact HE.out _ rfl rfl rfl rfl
end Go.Proofs.Ytmcemhkhgccojaa
/- Put: what takes another one's place. -/
namespace Go.Proofs.Ytmcemhkhgccojaa
open Go.RowKit
set_option linter.unusedVariables false

theorem insOk_any (L : List Row) (p : Nat) (hp : p ≤ L.length) : InsOk L p := by
  by_cases he : p = L.length
  · exact insOk_end L p he
  · intro N a c vb r w hN hown hl hv hne
    cases a with
    | none =>
      exfalso
      rcases hown.2 with ⟨_, h2⟩ | ⟨g, cap, cur, h1, _⟩
      · omega
      · simp at h1
    | some ad =>
      obtain ⟨g, rfl⟩ : ∃ g, ad = ⟨g, 0, none⟩ := by
        rcases hown.2 with ⟨h1, h2⟩ | ⟨g, cap, cur, h1, _⟩
        · simp at h1
        · simp only [Value.slice.injEq, Option.some.injEq] at h1; exact ⟨g, h1.1⟩
      by_cases hr : L.length + 1 ≤ c
      · exact ins_shift N g c L p vb r w hown (by omega) hr hv (hne _ rfl)
      · exact ins_grow N g c L p vb r w hN hown hl (by omega) hr hv (hne _ rfl)
theorem set12 (L : List Row) (p : Nat) (hp : p < L.length) (s' : Seats) (l : LsaZ) : (((((((((((((cellsOf rowC L).set (p * 12) (.int .i64 l.head.age)).set (p * 12 + 1) (.int .i64 l.head.kind)).set (p * 12 + 2) (.int .i64 l.head.id)).set (p * 12 + 3) (.int .i64 l.head.adv)).set (p * 12 + 4) (.int .i64 l.head.seq)).set (p * 12 + 5) (.int .i64 l.head.sum)).set (p * 12 + 6) (.int .i64 l.head.len)).set (p * 12 + 7) (.int .i64 l.flags)).set (p * 12 + 8) (.slice s'.la l.links.length s'.lc)).set (p * 12 + 9) (.int .i64 l.bits)).set (p * 12 + 10) (.slice s'.ra l.routers.length s'.rc)).set (p * 12 + 11) (.slice s'.va l.verts.length s'.vc)) = cellsOf rowC (L.set p (s', l)) := by
  obtain ⟨A, r, B, rfl, rfl⟩ : ∃ A r B, L = A ++ r :: B ∧ A.length = p := ⟨L.take p, L[p], L.drop (p + 1), by rw [List.getElem_cons_drop, List.take_append_drop], by simp; omega⟩
  have hA := rows_len A
  rw [cells_app, show cellsOf rowC (r :: B) = rowC r ++ cellsOf rowC B from rfl]
  have e : (A ++ r :: B).set A.length (s', l) = A ++ (s', l) :: B := by simp
  rw [e, cells_app, show cellsOf rowC ((s', l) :: B) = rowC (s', l) ++ cellsOf rowC B from rfl]
  rw [← hA]
  simp [rowC]
theorem grown_trans {a b c : World} {g : Option Nat} (h : a.grownBy b g) (k : b.grownBy c g) : a.grownBy c g :=
  ⟨k.os.trans h.os, k.tape.trans h.tape, k.output.trans h.output, Nat.le_trans h.size k.size, fun i hi hn => (k.block i (Nat.lt_of_lt_of_le hi h.size) hn).trans (h.block i hi hn)⟩
/-- A row is written over. -/
theorem own_put12 {w : World} {N g c p : Nat} {L : List Row} (h : w.ownsRow N 39 12 (.slice (some ⟨g, 0, none⟩) L.length c) L.length (cellsOf rowC L)) (hp : p < L.length) (s' : Seats) (l : LsaZ) :
    ((((((((((((w.setCell ⟨g, p * 12, none⟩ (.int .i64 l.head.age)).setCell ⟨g, p * 12 + 1, none⟩ (.int .i64 l.head.kind)).setCell ⟨g, p * 12 + 2, none⟩ (.int .i64 l.head.id)).setCell ⟨g, p * 12 + 3, none⟩ (.int .i64 l.head.adv)).setCell ⟨g, p * 12 + 4, none⟩ (.int .i64 l.head.seq)).setCell ⟨g, p * 12 + 5, none⟩ (.int .i64 l.head.sum)).setCell ⟨g, p * 12 + 6, none⟩ (.int .i64 l.head.len)).setCell ⟨g, p * 12 + 7, none⟩ (.int .i64 l.flags)).setCell ⟨g, p * 12 + 8, none⟩ (.slice s'.la l.links.length s'.lc)).setCell ⟨g, p * 12 + 9, none⟩ (.int .i64 l.bits)).setCell ⟨g, p * 12 + 10, none⟩ (.slice s'.ra l.routers.length s'.rc)).setCell ⟨g, p * 12 + 11, none⟩ (.slice s'.va l.verts.length s'.vc)).ownsRow N 39 12 (.slice (some ⟨g, 0, none⟩) L.length c) L.length (cellsOf rowC (L.set p (s', l))) ∧ w.grownBy ((((((((((((w.setCell ⟨g, p * 12, none⟩ (.int .i64 l.head.age)).setCell ⟨g, p * 12 + 1, none⟩ (.int .i64 l.head.kind)).setCell ⟨g, p * 12 + 2, none⟩ (.int .i64 l.head.id)).setCell ⟨g, p * 12 + 3, none⟩ (.int .i64 l.head.adv)).setCell ⟨g, p * 12 + 4, none⟩ (.int .i64 l.head.seq)).setCell ⟨g, p * 12 + 5, none⟩ (.int .i64 l.head.sum)).setCell ⟨g, p * 12 + 6, none⟩ (.int .i64 l.head.len)).setCell ⟨g, p * 12 + 7, none⟩ (.int .i64 l.flags)).setCell ⟨g, p * 12 + 8, none⟩ (.slice s'.la l.links.length s'.lc)).setCell ⟨g, p * 12 + 9, none⟩ (.int .i64 l.bits)).setCell ⟨g, p * 12 + 10, none⟩ (.slice s'.ra l.routers.length s'.rc)).setCell ⟨g, p * 12 + 11, none⟩ (.slice s'.va l.verts.length s'.vc)) (some g) := by
  rw [← set12 L p hp s' l]
  have h0 := World.ownsRow.stored h (p * 12) (.int .i64 l.head.age)
  have h1 := World.ownsRow.stored h0.1 (p * 12 + 1) (.int .i64 l.head.kind)
  have h2 := World.ownsRow.stored h1.1 (p * 12 + 2) (.int .i64 l.head.id)
  have h3 := World.ownsRow.stored h2.1 (p * 12 + 3) (.int .i64 l.head.adv)
  have h4 := World.ownsRow.stored h3.1 (p * 12 + 4) (.int .i64 l.head.seq)
  have h5 := World.ownsRow.stored h4.1 (p * 12 + 5) (.int .i64 l.head.sum)
  have h6 := World.ownsRow.stored h5.1 (p * 12 + 6) (.int .i64 l.head.len)
  have h7 := World.ownsRow.stored h6.1 (p * 12 + 7) (.int .i64 l.flags)
  have h8 := World.ownsRow.stored h7.1 (p * 12 + 8) (.slice s'.la l.links.length s'.lc)
  have h9 := World.ownsRow.stored h8.1 (p * 12 + 9) (.int .i64 l.bits)
  have h10 := World.ownsRow.stored h9.1 (p * 12 + 10) (.slice s'.ra l.routers.length s'.rc)
  have h11 := World.ownsRow.stored h10.1 (p * 12 + 11) (.slice s'.va l.verts.length s'.vc)
  exact ⟨h11.1, (grown_trans (grown_trans (grown_trans (grown_trans (grown_trans (grown_trans (grown_trans (grown_trans (grown_trans (grown_trans (grown_trans h0.2 h1.2) h2.2) h3.2) h4.2) h5.2) h6.2) h7.2) h8.2) h9.2) h10.2) h11.2)⟩
/-- Rows that were turned, the object as it was. -/
theorem Keeps.turn {w w1 : World} {N b : Nat} {most : Int} {v : Value} {L M : List Row} (h : Keeps w N b most v L) (hown : w1.ownsRow N 39 12 v M.length (cellsOf rowC M)) (hg : w.grownBy w1 v.ownBlock)
    (hM : ∀ r ∈ M, Held w r.1 r.2 ∧ Nils r.1 ∧ Mid r.2 ∧ sealedB r.2 = true ∧ Off b r ∧ (∀ g, v.ownBlock = some g → Off g r)) (hR : Rising M) (hl : M.length ≤ 1000000) : Keeps w1 N b most v M := by
  have ht : Turned b v.ownBlock w w1 := Turned.grown hg
  refine ⟨?_, h.lo, hown, h.ne, fun r hr => (hM r hr).1.turned ht (hM r hr).2.2.2.2.1 (hM r hr).2.2.2.2.2, fun r hr => (hM r hr).2.1, fun r hr => (hM r hr).2.2.1, fun r hr => (hM r hr).2.2.2.1, fun r hr => (hM r hr).2.2.2.2.1, fun r hr => (hM r hr).2.2.2.2.2, hR, hl⟩
  obtain ⟨t, ho⟩ := h.obj
  exact ⟨t, by rw [hg.block b h.obj.lt (fun e => h.ne e.symm)]; exact ho⟩
/-- How Put ends that writes in place. -/
def PutIn (w : World) (N b : Nat) (most : Int) (v : Value) (L : List Row) (p : Nat) (l : LsaZ) (e : Ending) (w' : World) : Prop := ∃ s', e = .returned (.int .i64 0) ∧ Keeps w' N b most v (L.set p (s', l)) ∧ Turned b v.ownBlock w w' ∧ FarR w.heap.size s'
set_option maxHeartbeats 3200000 in
theorem put_set0 (N b : Nat) (most : Int) (lv : Value) (L : List Row) (s : Seats) (l : LsaZ) (w : World) (h : Keeps w N b most lv L) (hH : Held w s l) (hf : Mid l) (hN : Nils s) (p : Nat) (r : Row) (hpo : posZ L (keyZ l.head) = p) (hr : L[p]? = some r) (hk : rk r = keyZ l.head) (hs : sealedB l = true) (hc : ¬ 0 < newI r.2.head.age r.2.head.seq r.2.head.sum l.head.age l.head.seq l.head.sum) :
    Calls Try.prog 10 #[.pointer (some ⟨b, 0, none⟩), .agg (lsaA s l)] w (PutIn w N b most lv L p l) := by
  obtain ⟨a, c, rfl, hL, hLc, hcm, hanil, hag⟩ := h.lies
  have HB : Hid (Below w.heap.size w (w.alloc (.cells (lsaA s l) 39))) := below_new' _ _
  have HK : Hid (Keeps w N b most (.slice a L.length c) L) := h
  have HX : Hid (Box (w.alloc (.cells (lsaA s l) 39)) w.heap.size s l) := box_new w s l
  have HH : Hid (Held w s l) := hH
  have HMI : Hid (Mid l) := hf
  have HNI : Hid (Nils s) := hN
  have HSE : Hid (sealedB l = true) := hs
  have HTH : Hid (thereB L (keyZ l.head) = true) := by
    show thereB L (keyZ l.head) = true
    unfold thereB; rw [hpo, hr]; show (agZ (rk r) (keyZ l.head) == 0) = true; rw [hk, agZ_self]; rfl
  obtain ⟨hp, hr'⟩ := List.getElem?_eq_some_iff.1 hr
  obtain ⟨g, off, rfl, hrow⟩ := DB.at hL p hp
  rw [hr'] at hrow
  obtain rfl : off = 0 := by
    obtain ⟨g', e, -⟩ := hag _ rfl
    simp only [Addr.mk.injEq] at e; exact e.2.1
  obtain ⟨g', e, hNg, hgw, hgb⟩ := hag _ rfl
  obtain rfl : g = g' := by simp only [Addr.mk.injEq] at e; exact e.1
  have HMEM : Hid (r ∈ L) := by show r ∈ L; rw [← hr']; exact List.getElem_mem hp
  have HIr : Hid (In64 r.2.head.age) := by
    have := sealed_age (h.shut _ HMEM.out)
    show In64 _; unfold In64; omega
  have HIl : Hid (In64 l.head.age) := by
    have := sealed_age hs
    show In64 _; unfold In64; omega
  have HC : Hid (¬ 0 < newI r.2.head.age r.2.head.seq r.2.head.sum l.head.age l.head.seq l.head.sum) := hc
  have HPO : Hid (posZ L (keyZ l.head) = p) := hpo
  have HRr : Hid (L[p]? = some r) := hr
  have HKr : Hid (rk r = keyZ l.head) := hk
  have HRow : Hid (RowAt w g (0 + p * 12) r) := hrow
  rw [Nat.zero_add] at HRow
  have hlen : L.length ≤ 1000000 := h.len
  have hlc : (L.length : Int) ≤ (c : Int) := by omega
  clear hs hc hk e hr hr' hrow hpo
  clear h hL hH hf hN hLc hcm hanil hag
  go_enter Try.func10, Try.ntmps10
  go_upto_region 3 with fail
  generalize w.alloc (.cells (lsaA s l) 39) = W at *
  obtain ⟨c0, c1, c2, c3, c4, c5, c6, c7, c8, c9, c10, c11⟩ := HX.out
  go_wp2_with fail
  refine (bSealed_any s l _ (HH.out.below HB.out) HMI.out HNI.out).mono ?_
  rintro e w1 ⟨rfl, hb⟩
  rw [HSE.out]
  have HX1 : Hid (Box w1 w.heap.size s l) := HX.out.below hb HX.out.lt
  replace HB : Hid (Below w.heap.size w w1) := below_more HB.out hb HB.out.size
  clear hb HX c0 c1 c2 c3 c4 c5 c6 c7 c8 c9 c10 c11
  obtain ⟨c0, c1, c2, c3, c4, c5, c6, c7, c8, c9, c10, c11⟩ := HX1.out
  go_wp2_with fail
  refine (keyOf_any l.head _).mono ?_
  rintro e w2 ⟨rfl, hb⟩
  have HX2 : Hid (Box w2 w.heap.size s l) := HX1.out.below hb HX1.out.lt
  replace HB : Hid (Below w.heap.size w w2) := below_more HB.out hb HB.out.size
  clear hb HX1 c0 c1 c2 c3 c4 c5 c6 c7 c8 c9 c10 c11
  have CF := find_any N b most _ L (keyZ l.head) w2 (HK.out.below HB.out)
  go_wp2_with fail
  refine CF.mono ?_
  rintro e w3 ⟨rfl, hb⟩
  have HX3 : Hid (Box w3 w.heap.size s l) := HX2.out.below hb HX2.out.lt
  replace HB : Hid (Below w.heap.size w w3) := below_more HB.out hb HB.out.size
  clear hb HX2 CF
  rw [HTH.out, HPO.out]
  have keepS : Hid (∀ X, Below w3.heap.size w3 X → X.cell? ⟨b, 1, none⟩ = some (.slice (some ⟨g, 0, none⟩) L.length c) ∧ X.cell? ⟨g, p * 12, none⟩ = some (.int .i64 r.2.head.age) ∧ X.cell? ⟨g, p * 12 + 1, none⟩ = some (.int .i64 r.2.head.kind) ∧ X.cell? ⟨g, p * 12 + 2, none⟩ = some (.int .i64 r.2.head.id) ∧ X.cell? ⟨g, p * 12 + 3, none⟩ = some (.int .i64 r.2.head.adv) ∧ X.cell? ⟨g, p * 12 + 4, none⟩ = some (.int .i64 r.2.head.seq) ∧ X.cell? ⟨g, p * 12 + 5, none⟩ = some (.int .i64 r.2.head.sum) ∧ X.cell? ⟨g, p * 12 + 6, none⟩ = some (.int .i64 r.2.head.len) ∧ X.cell? ⟨w.heap.size, 0, none⟩ = some (.int .i64 l.head.age) ∧ X.cell? ⟨w.heap.size, 1, none⟩ = some (.int .i64 l.head.kind) ∧ X.cell? ⟨w.heap.size, 2, none⟩ = some (.int .i64 l.head.id) ∧ X.cell? ⟨w.heap.size, 3, none⟩ = some (.int .i64 l.head.adv) ∧ X.cell? ⟨w.heap.size, 4, none⟩ = some (.int .i64 l.head.seq) ∧ X.cell? ⟨w.heap.size, 5, none⟩ = some (.int .i64 l.head.sum) ∧ X.cell? ⟨w.heap.size, 6, none⟩ = some (.int .i64 l.head.len)) := by
    intro X hX
    have HBX : Below w.heap.size w X := below_more HB.out hX HB.out.size
    have h1 := (HK.out.below HBX).obj
    obtain ⟨c0, c1, c2, c3, c4, c5, c6, -, -, -, -, -⟩ := HRow.out.below HBX HRow.out.lt
    obtain ⟨d0, d1, d2, d3, d4, d5, d6, -, -, -, -, -⟩ := HX3.out.below hX HX3.out.lt
    exact ⟨h1.cell 1 rfl, c0, c1, c2, c3, c4, c5, c6, d0, d1, d2, d3, d4, d5, d6⟩
  have hS := keepS.out _ (Below.refl _ _).drew
  have CA : Calls _ _ _ _ _ := (cmp_i r.2.head.age r.2.head.kind r.2.head.id r.2.head.adv r.2.head.seq r.2.head.sum r.2.head.len l.head.age l.head.kind l.head.id l.head.adv l.head.seq l.head.sum l.head.len w3.drew HIr.out HIl.out).mono (R' := fun e w' => e = .returned (.int .i64 (newI r.2.head.age r.2.head.seq r.2.head.sum l.head.age l.head.seq l.head.sum)) ∧ Below w3.heap.size w3 w') fun e w' h => ⟨h.1, ((Below.refl _ _).drew).trans h.2⟩
  generalize newI r.2.head.age r.2.head.seq r.2.head.sum l.head.age l.head.seq l.head.sum = V at *
  have hV := HC.out
  go_upto_region 7 with fail
  go_region_held3 (fun X => X.cell? ⟨b, 1, none⟩ = some (.slice (some ⟨g, 0, none⟩) L.length c) ∧ X.cell? ⟨g, p * 12, none⟩ = some (.int .i64 r.2.head.age) ∧ X.cell? ⟨g, p * 12 + 1, none⟩ = some (.int .i64 r.2.head.kind) ∧ X.cell? ⟨g, p * 12 + 2, none⟩ = some (.int .i64 r.2.head.id) ∧ X.cell? ⟨g, p * 12 + 3, none⟩ = some (.int .i64 r.2.head.adv) ∧ X.cell? ⟨g, p * 12 + 4, none⟩ = some (.int .i64 r.2.head.seq) ∧ X.cell? ⟨g, p * 12 + 5, none⟩ = some (.int .i64 r.2.head.sum) ∧ X.cell? ⟨g, p * 12 + 6, none⟩ = some (.int .i64 r.2.head.len) ∧ X.cell? ⟨w.heap.size, 0, none⟩ = some (.int .i64 l.head.age) ∧ X.cell? ⟨w.heap.size, 1, none⟩ = some (.int .i64 l.head.kind) ∧ X.cell? ⟨w.heap.size, 2, none⟩ = some (.int .i64 l.head.id) ∧ X.cell? ⟨w.heap.size, 3, none⟩ = some (.int .i64 l.head.adv) ∧ X.cell? ⟨w.heap.size, 4, none⟩ = some (.int .i64 l.head.seq) ∧ X.cell? ⟨w.heap.size, 5, none⟩ = some (.int .i64 l.head.sum) ∧ X.cell? ⟨w.heap.size, 6, none⟩ = some (.int .i64 l.head.len)) (with_reducible first | exact hS | exact keepS.out _ hk | assumption | fail) (first | (go_at_call 33; refine CA.mono ?_; rintro e w4 ⟨rfl, hk⟩))
  rename_i hSx
  have HX4 : Hid (Box w4 w.heap.size s l) := HX3.out.below hk HX3.out.lt
  replace HB : Hid (Below w.heap.size w w4) := below_more HB.out hk HB.out.size
  clear hk CA hS hSx keepS HX3
  have HIN : Hid (p < L.length) := hp
  have b1 := (HK.out.below HB.out).obj.cell 1 rfl
  obtain ⟨c0, c1, c2, c3, c4, c5, c6, c7, c8, c9, c10, c11⟩ := HX4.out
  have CC : Calls _ _ _ _ _ := (clone_any s l w4.drew (HH.out.below HB.out.drew) HMI.out HNI.out).mono (R' := fun e w' => ∃ s', e = .returned (.agg (lsaA s' l)) ∧ Hid (Held w' s' l ∧ Nils s' ∧ Below w4.heap.size w4 w' ∧ Far w4.heap.size s'.la ∧ Far w4.heap.size s'.ra ∧ Far w4.heap.size s'.va) ∧ w'.cell? ⟨b, 1, none⟩ = some (.slice (some ⟨g, 0, none⟩) L.length c) ∧ RowAt w' g (p * 12) r ∧ ∀ j, w'.frozen? ⟨g, j, none⟩ = false) fun e w' ⟨s', h1, h2, h3, h4, h5, h6, h7⟩ => by
    have hX : Below w4.heap.size w4 w' := ((Below.refl _ _).drew).trans h4
    have hK := (HK.out.below HB.out).below hX
    exact ⟨s', h1, ⟨h2, h3, hX, h5, h6, h7⟩, hK.obj.cell 1 rfl, HRow.out.below (below_more HB.out hX HB.out.size) HRow.out.lt, fun j => World.ownsRow.frozenAt hK.own j⟩
  clear HX4
  go_upto_region 10 with fail
  go_region_with (first
    | (go_at_call 34; refine CC.mono ?_; rintro e w6 ⟨s', rfl, hcl, b1', ⟨y0, y1, y2, y3, y4, y5, y6, y7, y8, y9, y10, y11⟩, hfz⟩))
  all_goals
    clear y0 y1 y2 y3 y4 y5 y6 y7 y8 y9 y10 y11 hfz b1 b1' CC hV
    go_wp2
    go_ret
    obtain ⟨q1, q2, q3, q4, q5, q6⟩ := hcl.out
    have hK6 := (HK.out.below HB.out).below q3
    obtain ⟨o1, o2⟩ := own_put12 (p := p) hK6.own HIN.out s' l
    have hb4 := (HK.out.below HB.out).obj.lt
    refine ⟨s', rfl, ?_, ?_, ?_⟩
    · show Keeps _ _ _ _ _ (L.set p (s', l))
      refine hK6.turn (M := L.set p (s', l)) (by rw [List.length_set]; exact o1) o2 ?_ (rising_set hK6.rising p (s', l) HIN.out ?_) (by rw [List.length_set]; exact hK6.len)
      · intro x hx
        rcases List.mem_or_eq_of_mem_set hx with hx | rfl
        · exact hK6.row hx
        · refine ⟨q1, q2, HMI.out, HSE.out, off_far q4 q5 q6 hb4, fun g' hg' => off_far q4 q5 q6 ?_⟩
          exact (World.ownsRow.lt (HK.out.below HB.out).own g' hg').2
      · obtain ⟨_, e⟩ := List.getElem?_eq_some_iff.1 HRr.out
        rw [e, HKr.out]; rfl
    · exact (Turned.of b _ (below_more HB.out q3 HB.out.size)).trans (Turned.grown o2)
    · have := HB.out.size
      exact ⟨q4.mono (by omega), q5.mono (by omega), q6.mono (by omega)⟩
theorem put_set (N b : Nat) (most : Int) (lv : Value) (L : List Row) (s : Seats) (l : LsaZ) (w : World) (h : Keeps w N b most lv L) (hH : Held w s l) (hf : Mid l) (hN : Nils s) (p : Nat) (r : Row) (hpo : posZ L (keyZ l.head) = p) (hr : L[p]? = some r) (hk : rk r = keyZ l.head) (hs : sealedB l = true) (hc : ¬ 0 < newI r.2.head.age r.2.head.seq r.2.head.sum l.head.age l.head.seq l.head.sum) :
    Calls Try.prog 10 #[.pointer (some ⟨b, 0, none⟩), .agg (lsaA s l)] w (PutOk w N b most lv fun s' => L.set p (s', l)) :=
  (put_set0 N b most lv L s l w h hH hf hN p r hpo hr hk hs hc).mono fun _ _ ⟨s', h1, h2, h3, _⟩ => ⟨lv, s', h1, h2, h3, .inl rfl⟩
end Go.Proofs.Ytmcemhkhgccojaa
/- Get. -/
namespace Go.Proofs.Ytmcemhkhgccojaa
open Go.RowKit
set_option linter.unusedVariables false

set_option maxHeartbeats 3200000 in
set_option maxRecDepth 20000 in
theorem get_no (N b : Nat) (most : Int) (lv : Value) (L : List Row) (k : KeyZ) (w : World) (h : Keeps w N b most lv L) (ht : thereB L k = false) : Calls Try.prog 13 #[.pointer (some ⟨b, 0, none⟩), .agg (keyV k)] w fun e w' => e = .returned (.tuple #[.agg zero12.toArray, .bool false]) ∧ Below w.heap.size w w' := by
  have CF := fun X hX => find_any N b most lv L k X (h.below hX)
  rw [ht] at CF
  clear h ht
  have HB : Hid (Below w.heap.size w ((w.alloc (.cells (keyV k) 41)).alloc (.cells zero12.toArray 39))) := (below_new' _ _).alloc (by simp) _
  have HK0 : Hid (Var ((w.alloc (.cells (keyV k) 41)).alloc (.cells zero12.toArray 39)) w.heap.size [.int .i64 k.kind, .int .i64 k.id, .int .i64 k.adv]) := (var_new w [.int .i64 k.kind, .int .i64 k.id, .int .i64 k.adv] _).alloc _
  have HR : Hid (Var ((w.alloc (.cells (keyV k) 41)).alloc (.cells zero12.toArray 39)) (w.heap.size + 1) zero12) := by
    have := var_new (w.alloc (.cells (keyV k) 41)) zero12 39
    rw [size_new] at this; exact this
  go_enter Try.func13, Try.ntmps13
  go_upto_region 1 with fail
  generalize (w.alloc (.cells (keyV k) 41)).alloc (.cells zero12.toArray 39) = W at *
  have d0 := HK0.out.cell 0 rfl
  have d1 := HK0.out.cell 1 rfl
  have d2 := HK0.out.cell 2 rfl
  have CF2 := CF W HB.out
  clear CF
  go_wp2_with fail
  refine CF2.mono ?_
  rintro e w2 ⟨rfl, hb⟩
  replace HR : Hid (Var w2 (w.heap.size + 1) zero12) := HR.out.below hb HR.out.lt
  have HB2 : Hid (Below w.heap.size w w2) := below_more HB.out hb HB.out.size
  clear hb d0 d1 d2 CF2 HK0 HB
  have K1 : Hid (Var ((((((((((((w2.setCell ⟨w.heap.size + 1, 0, none⟩ (.int .i64 0)).setCell ⟨w.heap.size + 1, 1, none⟩ (.int .i64 0)).setCell ⟨w.heap.size + 1, 2, none⟩ (.int .i64 0)).setCell ⟨w.heap.size + 1, 3, none⟩ (.int .i64 0)).setCell ⟨w.heap.size + 1, 4, none⟩ (.int .i64 0)).setCell ⟨w.heap.size + 1, 5, none⟩ (.int .i64 0)).setCell ⟨w.heap.size + 1, 6, none⟩ (.int .i64 0)).setCell ⟨w.heap.size + 1, 7, none⟩ (.int .i64 0)).setCell ⟨w.heap.size + 1, 8, none⟩ (.slice none 0 0)).setCell ⟨w.heap.size + 1, 9, none⟩ (.int .i64 0)).setCell ⟨w.heap.size + 1, 10, none⟩ (.slice none 0 0)).setCell ⟨w.heap.size + 1, 11, none⟩ (.slice none 0 0)) (w.heap.size + 1) [(.int .i64 0), (.int .i64 0), (.int .i64 0), (.int .i64 0), (.int .i64 0), (.int .i64 0), (.int .i64 0), (.int .i64 0), (.slice none 0 0), (.int .i64 0), (.slice none 0 0), (.slice none 0 0)]) := HR.out.put12 (.int .i64 0) (.int .i64 0) (.int .i64 0) (.int .i64 0) (.int .i64 0) (.int .i64 0) (.int .i64 0) (.int .i64 0) (.slice none 0 0) (.int .i64 0) (.slice none 0 0) (.slice none 0 0)
  have K2 : Hid (Below w.heap.size w ((((((((((((w2.setCell ⟨w.heap.size + 1, 0, none⟩ (.int .i64 0)).setCell ⟨w.heap.size + 1, 1, none⟩ (.int .i64 0)).setCell ⟨w.heap.size + 1, 2, none⟩ (.int .i64 0)).setCell ⟨w.heap.size + 1, 3, none⟩ (.int .i64 0)).setCell ⟨w.heap.size + 1, 4, none⟩ (.int .i64 0)).setCell ⟨w.heap.size + 1, 5, none⟩ (.int .i64 0)).setCell ⟨w.heap.size + 1, 6, none⟩ (.int .i64 0)).setCell ⟨w.heap.size + 1, 7, none⟩ (.int .i64 0)).setCell ⟨w.heap.size + 1, 8, none⟩ (.slice none 0 0)).setCell ⟨w.heap.size + 1, 9, none⟩ (.int .i64 0)).setCell ⟨w.heap.size + 1, 10, none⟩ (.slice none 0 0)).setCell ⟨w.heap.size + 1, 11, none⟩ (.slice none 0 0))) := below_put12 HB2.out (by omega) (.int .i64 0) (.int .i64 0) (.int .i64 0) (.int .i64 0) (.int .i64 0) (.int .i64 0) (.int .i64 0) (.int .i64 0) (.slice none 0 0) (.int .i64 0) (.slice none 0 0) (.slice none 0 0)
  have r0 := HR.out.cell 0 rfl
  have q0 := HR.out.frozen 0
  have r1 := HR.out.cell 1 rfl
  have q1 := HR.out.frozen 1
  have r2 := HR.out.cell 2 rfl
  have q2 := HR.out.frozen 2
  have r3 := HR.out.cell 3 rfl
  have q3 := HR.out.frozen 3
  have r4 := HR.out.cell 4 rfl
  have q4 := HR.out.frozen 4
  have r5 := HR.out.cell 5 rfl
  have q5 := HR.out.frozen 5
  have r6 := HR.out.cell 6 rfl
  have q6 := HR.out.frozen 6
  have r7 := HR.out.cell 7 rfl
  have q7 := HR.out.frozen 7
  have r8 := HR.out.cell 8 rfl
  have q8 := HR.out.frozen 8
  have r9 := HR.out.cell 9 rfl
  have q9 := HR.out.frozen 9
  have r10 := HR.out.cell 10 rfl
  have q10 := HR.out.frozen 10
  have r11 := HR.out.cell 11 rfl
  have q11 := HR.out.frozen 11
  go_wp2
  clear r0 q0 r1 q1 r2 q2 r3 q3 r4 q4 r5 q5 r6 q6 r7 q7 r8 q8 r9 q9 r10 q10 r11 q11
  generalize ((((((((((((w2.setCell ⟨w.heap.size + 1, 0, none⟩ (.int .i64 0)).setCell ⟨w.heap.size + 1, 1, none⟩ (.int .i64 0)).setCell ⟨w.heap.size + 1, 2, none⟩ (.int .i64 0)).setCell ⟨w.heap.size + 1, 3, none⟩ (.int .i64 0)).setCell ⟨w.heap.size + 1, 4, none⟩ (.int .i64 0)).setCell ⟨w.heap.size + 1, 5, none⟩ (.int .i64 0)).setCell ⟨w.heap.size + 1, 6, none⟩ (.int .i64 0)).setCell ⟨w.heap.size + 1, 7, none⟩ (.int .i64 0)).setCell ⟨w.heap.size + 1, 8, none⟩ (.slice none 0 0)).setCell ⟨w.heap.size + 1, 9, none⟩ (.int .i64 0)).setCell ⟨w.heap.size + 1, 10, none⟩ (.slice none 0 0)).setCell ⟨w.heap.size + 1, 11, none⟩ (.slice none 0 0)) = Z at *
  have c0 := K1.out.cell 0 rfl
  have c1 := K1.out.cell 1 rfl
  have c2 := K1.out.cell 2 rfl
  have c3 := K1.out.cell 3 rfl
  have c4 := K1.out.cell 4 rfl
  have c5 := K1.out.cell 5 rfl
  have c6 := K1.out.cell 6 rfl
  have c7 := K1.out.cell 7 rfl
  have c8 := K1.out.cell 8 rfl
  have c9 := K1.out.cell 9 rfl
  have c10 := K1.out.cell 10 rfl
  have c11 := K1.out.cell 11 rfl
  refine bodyPost_ret (by simp [results, Try.results13, go_sem, c0, c1, c2, c3, c4, c5, c6, c7, c8, c9, c10, c11]; try rfl) rfl ?_
  exact ⟨rfl, K2.out⟩
set_option maxHeartbeats 3200000 in
set_option maxRecDepth 20000 in
theorem get_yes (N b : Nat) (most : Int) (lv : Value) (L : List Row) (k : KeyZ) (w : World) (h : Keeps w N b most lv L) (ht : thereB L k = true) (r : Row) (hr : L[posZ L k]? = some r) : Calls Try.prog 13 #[.pointer (some ⟨b, 0, none⟩), .agg (keyV k)] w fun e w' => ∃ s1, e = .returned (.tuple #[.agg (lsaA s1 r.2), .bool true]) ∧ Held w' s1 r.2 ∧ Nils s1 ∧ Below w.heap.size w w' := by
  obtain ⟨hp, hr'⟩ := List.getElem?_eq_some_iff.1 hr
  obtain ⟨a, c, rfl, hL, hLc, hcm, hanil, hag⟩ := h.lies
  obtain ⟨g, off, rfl, hrow⟩ := DB.at hL (posZ L k) hp
  rw [hr'] at hrow
  obtain rfl : off = 0 := by
    obtain ⟨g', e, -⟩ := hag _ rfl
    simp only [Addr.mk.injEq] at e; exact e.2.1
  have HRow : Hid (RowAt w g (0 + posZ L k * 12) r) := hrow
  rw [Nat.zero_add] at HRow
  have HMEM : Hid (r ∈ L) := by show r ∈ L; rw [← hr']; exact List.getElem_mem hp
  have CF := fun X hX => find_any N b most _ L k X (h.below hX)
  rw [ht] at CF
  have HK : Hid (Keeps w N b most (.slice (some ⟨g, 0, none⟩) L.length c) L) := h
  have hlen : L.length ≤ 1000000 := h.len
  have hpI : (posZ L k : Int) < (L.length : Int) := by omega
  have hlc : (L.length : Int) ≤ (c : Int) := by omega
  clear h ht hL hLc hcm hanil hag hrow hr hr' hp
  obtain ⟨p, hpe⟩ : ∃ p, posZ L k = p := ⟨_, rfl⟩
  rw [hpe] at CF hpI HRow
  clear hpe
  have HB : Hid (Below w.heap.size w ((w.alloc (.cells (keyV k) 41)).alloc (.cells zero12.toArray 39))) := (below_new' _ _).alloc (by simp) _
  have HK0 : Hid (Var ((w.alloc (.cells (keyV k) 41)).alloc (.cells zero12.toArray 39)) w.heap.size [.int .i64 k.kind, .int .i64 k.id, .int .i64 k.adv]) := (var_new w [.int .i64 k.kind, .int .i64 k.id, .int .i64 k.adv] _).alloc _
  have HR : Hid (Var ((w.alloc (.cells (keyV k) 41)).alloc (.cells zero12.toArray 39)) (w.heap.size + 1) zero12) := by
    have := var_new (w.alloc (.cells (keyV k) 41)) zero12 39
    rw [size_new] at this; exact this
  go_enter Try.func13, Try.ntmps13
  go_upto_region 1 with fail
  generalize (w.alloc (.cells (keyV k) 41)).alloc (.cells zero12.toArray 39) = W at *
  have d0 := HK0.out.cell 0 rfl
  have d1 := HK0.out.cell 1 rfl
  have d2 := HK0.out.cell 2 rfl
  have CF2 := CF W HB.out
  clear CF
  go_wp2_with fail
  refine CF2.mono ?_
  rintro e w2 ⟨rfl, hb⟩
  replace HR : Hid (Var w2 (w.heap.size + 1) zero12) := HR.out.below hb HR.out.lt
  have HB2 : Hid (Below w.heap.size w w2) := below_more HB.out hb HB.out.size
  clear hb d0 d1 d2 CF2 HK0 HB
  have b1 := (HK.out.below HB2.out).obj.cell 1 rfl
  obtain ⟨y0, y1, y2, y3, y4, y5, y6, y7, y8, y9, y10, y11⟩ := HRow.out.below HB2.out HRow.out.lt
  have hKr := (HK.out.below HB2.out).row HMEM.out
  have CC := clone_any r.1 r.2 w2 hKr.1 hKr.2.2.1 hKr.2.1
  clear hKr
  go_wp2_with fail
  refine CC.mono ?_
  rintro e w3 ⟨s1, rfl, hh, hn, hb, f1, f2, f3⟩
  have hsz : w.heap.size + 2 ≤ w2.heap.size := HR.out.lt
  have HF : Hid (Far (w.heap.size + 2) s1.la ∧ Far (w.heap.size + 2) s1.ra ∧ Far (w.heap.size + 2) s1.va) := ⟨f1.mono hsz, f2.mono hsz, f3.mono hsz⟩
  replace HR : Hid (Var w3 (w.heap.size + 1) zero12) := HR.out.below hb HR.out.lt
  have HB3 : Hid (Below w.heap.size w w3) := below_more HB2.out hb HB2.out.size
  have HH : Hid (Held w3 s1 r.2) := hh
  have HN : Hid (Nils s1) := hn
  clear hh hn hb f1 f2 f3 hsz CC y0 y1 y2 y3 y4 y5 y6 y7 y8 y9 y10 y11 b1
  have L0 : Hid (Lies ((((((((((((w3.setCell ⟨w.heap.size + 1, 0, none⟩ (.int .i64 r.2.head.age)).setCell ⟨w.heap.size + 1, 1, none⟩ (.int .i64 r.2.head.kind)).setCell ⟨w.heap.size + 1, 2, none⟩ (.int .i64 r.2.head.id)).setCell ⟨w.heap.size + 1, 3, none⟩ (.int .i64 r.2.head.adv)).setCell ⟨w.heap.size + 1, 4, none⟩ (.int .i64 r.2.head.seq)).setCell ⟨w.heap.size + 1, 5, none⟩ (.int .i64 r.2.head.sum)).setCell ⟨w.heap.size + 1, 6, none⟩ (.int .i64 r.2.head.len)).setCell ⟨w.heap.size + 1, 7, none⟩ (.int .i64 r.2.flags)).setCell ⟨w.heap.size + 1, 8, none⟩ (.slice s1.la r.2.links.length s1.lc)).setCell ⟨w.heap.size + 1, 9, none⟩ (.int .i64 r.2.bits)).setCell ⟨w.heap.size + 1, 10, none⟩ (.slice s1.ra r.2.routers.length s1.rc)).setCell ⟨w.heap.size + 1, 11, none⟩ (.slice s1.va r.2.verts.length s1.vc)) s1.la _) := HH.out.hl.put12 HF.out.1 (by omega) (.int .i64 r.2.head.age) (.int .i64 r.2.head.kind) (.int .i64 r.2.head.id) (.int .i64 r.2.head.adv) (.int .i64 r.2.head.seq) (.int .i64 r.2.head.sum) (.int .i64 r.2.head.len) (.int .i64 r.2.flags) (.slice s1.la r.2.links.length s1.lc) (.int .i64 r.2.bits) (.slice s1.ra r.2.routers.length s1.rc) (.slice s1.va r.2.verts.length s1.vc)
  have L1 : Hid (Lies ((((((((((((w3.setCell ⟨w.heap.size + 1, 0, none⟩ (.int .i64 r.2.head.age)).setCell ⟨w.heap.size + 1, 1, none⟩ (.int .i64 r.2.head.kind)).setCell ⟨w.heap.size + 1, 2, none⟩ (.int .i64 r.2.head.id)).setCell ⟨w.heap.size + 1, 3, none⟩ (.int .i64 r.2.head.adv)).setCell ⟨w.heap.size + 1, 4, none⟩ (.int .i64 r.2.head.seq)).setCell ⟨w.heap.size + 1, 5, none⟩ (.int .i64 r.2.head.sum)).setCell ⟨w.heap.size + 1, 6, none⟩ (.int .i64 r.2.head.len)).setCell ⟨w.heap.size + 1, 7, none⟩ (.int .i64 r.2.flags)).setCell ⟨w.heap.size + 1, 8, none⟩ (.slice s1.la r.2.links.length s1.lc)).setCell ⟨w.heap.size + 1, 9, none⟩ (.int .i64 r.2.bits)).setCell ⟨w.heap.size + 1, 10, none⟩ (.slice s1.ra r.2.routers.length s1.rc)).setCell ⟨w.heap.size + 1, 11, none⟩ (.slice s1.va r.2.verts.length s1.vc)) s1.ra _) := HH.out.hr.put12 HF.out.2.1 (by omega) (.int .i64 r.2.head.age) (.int .i64 r.2.head.kind) (.int .i64 r.2.head.id) (.int .i64 r.2.head.adv) (.int .i64 r.2.head.seq) (.int .i64 r.2.head.sum) (.int .i64 r.2.head.len) (.int .i64 r.2.flags) (.slice s1.la r.2.links.length s1.lc) (.int .i64 r.2.bits) (.slice s1.ra r.2.routers.length s1.rc) (.slice s1.va r.2.verts.length s1.vc)
  have L2 : Hid (Lies ((((((((((((w3.setCell ⟨w.heap.size + 1, 0, none⟩ (.int .i64 r.2.head.age)).setCell ⟨w.heap.size + 1, 1, none⟩ (.int .i64 r.2.head.kind)).setCell ⟨w.heap.size + 1, 2, none⟩ (.int .i64 r.2.head.id)).setCell ⟨w.heap.size + 1, 3, none⟩ (.int .i64 r.2.head.adv)).setCell ⟨w.heap.size + 1, 4, none⟩ (.int .i64 r.2.head.seq)).setCell ⟨w.heap.size + 1, 5, none⟩ (.int .i64 r.2.head.sum)).setCell ⟨w.heap.size + 1, 6, none⟩ (.int .i64 r.2.head.len)).setCell ⟨w.heap.size + 1, 7, none⟩ (.int .i64 r.2.flags)).setCell ⟨w.heap.size + 1, 8, none⟩ (.slice s1.la r.2.links.length s1.lc)).setCell ⟨w.heap.size + 1, 9, none⟩ (.int .i64 r.2.bits)).setCell ⟨w.heap.size + 1, 10, none⟩ (.slice s1.ra r.2.routers.length s1.rc)).setCell ⟨w.heap.size + 1, 11, none⟩ (.slice s1.va r.2.verts.length s1.vc)) s1.va _) := HH.out.hv.put12 HF.out.2.2 (by omega) (.int .i64 r.2.head.age) (.int .i64 r.2.head.kind) (.int .i64 r.2.head.id) (.int .i64 r.2.head.adv) (.int .i64 r.2.head.seq) (.int .i64 r.2.head.sum) (.int .i64 r.2.head.len) (.int .i64 r.2.flags) (.slice s1.la r.2.links.length s1.lc) (.int .i64 r.2.bits) (.slice s1.ra r.2.routers.length s1.rc) (.slice s1.va r.2.verts.length s1.vc)
  have K1 : Hid (Var ((((((((((((w3.setCell ⟨w.heap.size + 1, 0, none⟩ (.int .i64 r.2.head.age)).setCell ⟨w.heap.size + 1, 1, none⟩ (.int .i64 r.2.head.kind)).setCell ⟨w.heap.size + 1, 2, none⟩ (.int .i64 r.2.head.id)).setCell ⟨w.heap.size + 1, 3, none⟩ (.int .i64 r.2.head.adv)).setCell ⟨w.heap.size + 1, 4, none⟩ (.int .i64 r.2.head.seq)).setCell ⟨w.heap.size + 1, 5, none⟩ (.int .i64 r.2.head.sum)).setCell ⟨w.heap.size + 1, 6, none⟩ (.int .i64 r.2.head.len)).setCell ⟨w.heap.size + 1, 7, none⟩ (.int .i64 r.2.flags)).setCell ⟨w.heap.size + 1, 8, none⟩ (.slice s1.la r.2.links.length s1.lc)).setCell ⟨w.heap.size + 1, 9, none⟩ (.int .i64 r.2.bits)).setCell ⟨w.heap.size + 1, 10, none⟩ (.slice s1.ra r.2.routers.length s1.rc)).setCell ⟨w.heap.size + 1, 11, none⟩ (.slice s1.va r.2.verts.length s1.vc)) (w.heap.size + 1) [(.int .i64 r.2.head.age), (.int .i64 r.2.head.kind), (.int .i64 r.2.head.id), (.int .i64 r.2.head.adv), (.int .i64 r.2.head.seq), (.int .i64 r.2.head.sum), (.int .i64 r.2.head.len), (.int .i64 r.2.flags), (.slice s1.la r.2.links.length s1.lc), (.int .i64 r.2.bits), (.slice s1.ra r.2.routers.length s1.rc), (.slice s1.va r.2.verts.length s1.vc)]) := HR.out.put12 (.int .i64 r.2.head.age) (.int .i64 r.2.head.kind) (.int .i64 r.2.head.id) (.int .i64 r.2.head.adv) (.int .i64 r.2.head.seq) (.int .i64 r.2.head.sum) (.int .i64 r.2.head.len) (.int .i64 r.2.flags) (.slice s1.la r.2.links.length s1.lc) (.int .i64 r.2.bits) (.slice s1.ra r.2.routers.length s1.rc) (.slice s1.va r.2.verts.length s1.vc)
  have K2 : Hid (Below w.heap.size w ((((((((((((w3.setCell ⟨w.heap.size + 1, 0, none⟩ (.int .i64 r.2.head.age)).setCell ⟨w.heap.size + 1, 1, none⟩ (.int .i64 r.2.head.kind)).setCell ⟨w.heap.size + 1, 2, none⟩ (.int .i64 r.2.head.id)).setCell ⟨w.heap.size + 1, 3, none⟩ (.int .i64 r.2.head.adv)).setCell ⟨w.heap.size + 1, 4, none⟩ (.int .i64 r.2.head.seq)).setCell ⟨w.heap.size + 1, 5, none⟩ (.int .i64 r.2.head.sum)).setCell ⟨w.heap.size + 1, 6, none⟩ (.int .i64 r.2.head.len)).setCell ⟨w.heap.size + 1, 7, none⟩ (.int .i64 r.2.flags)).setCell ⟨w.heap.size + 1, 8, none⟩ (.slice s1.la r.2.links.length s1.lc)).setCell ⟨w.heap.size + 1, 9, none⟩ (.int .i64 r.2.bits)).setCell ⟨w.heap.size + 1, 10, none⟩ (.slice s1.ra r.2.routers.length s1.rc)).setCell ⟨w.heap.size + 1, 11, none⟩ (.slice s1.va r.2.verts.length s1.vc))) := below_put12 HB3.out (by omega) (.int .i64 r.2.head.age) (.int .i64 r.2.head.kind) (.int .i64 r.2.head.id) (.int .i64 r.2.head.adv) (.int .i64 r.2.head.seq) (.int .i64 r.2.head.sum) (.int .i64 r.2.head.len) (.int .i64 r.2.flags) (.slice s1.la r.2.links.length s1.lc) (.int .i64 r.2.bits) (.slice s1.ra r.2.routers.length s1.rc) (.slice s1.va r.2.verts.length s1.vc)
  have r0 := HR.out.cell 0 rfl
  have q0 := HR.out.frozen 0
  have r1 := HR.out.cell 1 rfl
  have q1 := HR.out.frozen 1
  have r2 := HR.out.cell 2 rfl
  have q2 := HR.out.frozen 2
  have r3 := HR.out.cell 3 rfl
  have q3 := HR.out.frozen 3
  have r4 := HR.out.cell 4 rfl
  have q4 := HR.out.frozen 4
  have r5 := HR.out.cell 5 rfl
  have q5 := HR.out.frozen 5
  have r6 := HR.out.cell 6 rfl
  have q6 := HR.out.frozen 6
  have r7 := HR.out.cell 7 rfl
  have q7 := HR.out.frozen 7
  have r8 := HR.out.cell 8 rfl
  have q8 := HR.out.frozen 8
  have r9 := HR.out.cell 9 rfl
  have q9 := HR.out.frozen 9
  have r10 := HR.out.cell 10 rfl
  have q10 := HR.out.frozen 10
  have r11 := HR.out.cell 11 rfl
  have q11 := HR.out.frozen 11
  go_wp2
  clear r0 q0 r1 q1 r2 q2 r3 q3 r4 q4 r5 q5 r6 q6 r7 q7 r8 q8 r9 q9 r10 q10 r11 q11
  generalize ((((((((((((w3.setCell ⟨w.heap.size + 1, 0, none⟩ (.int .i64 r.2.head.age)).setCell ⟨w.heap.size + 1, 1, none⟩ (.int .i64 r.2.head.kind)).setCell ⟨w.heap.size + 1, 2, none⟩ (.int .i64 r.2.head.id)).setCell ⟨w.heap.size + 1, 3, none⟩ (.int .i64 r.2.head.adv)).setCell ⟨w.heap.size + 1, 4, none⟩ (.int .i64 r.2.head.seq)).setCell ⟨w.heap.size + 1, 5, none⟩ (.int .i64 r.2.head.sum)).setCell ⟨w.heap.size + 1, 6, none⟩ (.int .i64 r.2.head.len)).setCell ⟨w.heap.size + 1, 7, none⟩ (.int .i64 r.2.flags)).setCell ⟨w.heap.size + 1, 8, none⟩ (.slice s1.la r.2.links.length s1.lc)).setCell ⟨w.heap.size + 1, 9, none⟩ (.int .i64 r.2.bits)).setCell ⟨w.heap.size + 1, 10, none⟩ (.slice s1.ra r.2.routers.length s1.rc)).setCell ⟨w.heap.size + 1, 11, none⟩ (.slice s1.va r.2.verts.length s1.vc)) = Z at *
  have c0 := K1.out.cell 0 rfl
  have c1 := K1.out.cell 1 rfl
  have c2 := K1.out.cell 2 rfl
  have c3 := K1.out.cell 3 rfl
  have c4 := K1.out.cell 4 rfl
  have c5 := K1.out.cell 5 rfl
  have c6 := K1.out.cell 6 rfl
  have c7 := K1.out.cell 7 rfl
  have c8 := K1.out.cell 8 rfl
  have c9 := K1.out.cell 9 rfl
  have c10 := K1.out.cell 10 rfl
  have c11 := K1.out.cell 11 rfl
  refine bodyPost_ret (by simp [results, Try.results13, go_sem, c0, c1, c2, c3, c4, c5, c6, c7, c8, c9, c10, c11]; try rfl) rfl ?_
  exact ⟨s1, rfl, ⟨L0.out, L1.out, L2.out⟩, HN.out, K2.out⟩
end Go.Proofs.Ytmcemhkhgccojaa
