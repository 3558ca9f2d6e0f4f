/- Lists of neighbors of a call's own. -/
import Derived.Test.YtgljblnegiadlaaN11T
import Derived.Deep.DeepAppendRoom
namespace Go.Proofs.Ytgljblnegiadlaa
open Go.RowKit Go.Sort Go.Lib Go.Shelf
set_option linter.unusedVariables false
set_option linter.unusedSectionVars false
variable [Inhabited NearZ]

theorem info_near : (Try.prog.info? 42).map (fun i => (i.zero, i.size, i.bytes)) = some (some (.agg #[.int .i64 0, .int .i64 0, .int .i64 0, .int .i64 0, .int .i64 0, .bool false, .int .i64 0]), 7, 56) := by kernel_rfl
/-- A list of neighbors, from base on, of the call's own. -/
def OwnN (w : World) (base : Nat) (v : Value) (L : List NearZ) : Prop := w.ownsRow base 42 7 v L.length (cellsOf nearC L)
theorem nears_len (L : List NearZ) : (cellsOf nearC L).length = L.length * 7 := cellsOf_length nearC 7 nearC_length L
theorem nears_app (L M : List NearZ) : cellsOf nearC (L ++ M) = cellsOf nearC L ++ cellsOf nearC M := by unfold cellsOf; rw [List.flatMap_append]
theorem nears_one (L : List NearZ) : ∀ u ∈ cellsOf nearC L, u.oneCell' = true := by
  intro u hu
  unfold cellsOf at hu
  obtain ⟨z, _, hz⟩ := List.mem_flatMap.1 hu
  exact nearC_one z u hz
theorem OwnN.below {w w' : World} {base : Nat} {v : Value} {L : List NearZ} (h : OwnN w base v L) (hb : Below w.heap.size w w') : OwnN w' base v L := row_below h hb
theorem OwnN.belowN {w w' : World} {base N : Nat} {v : Value} {L : List NearZ} (h : OwnN w base v L) (hb : Below N w w') (hN : w.heap.size ≤ N) : OwnN w' base v L := row_below h (hb.mono hN)
theorem ownN_nil (w : World) (base : Nat) : OwnN w base (.slice none 0 0) [] := World.ownsRow_nil w base _ _
theorem OwnN.more {w : World} {base : Nat} {v : Value} {L : List NearZ} (h : OwnN w base v L) : ∃ a c, v = .slice a L.length c ∧ Lies w a (cellsOf nearC L) ∧ (a = none → c = 0) ∧ L.length ≤ c ∧ ∀ x, a = some x → ∃ g, x = ⟨g, 0, none⟩ ∧ base ≤ g ∧ g < w.heap.size := by
  rcases h.2 with ⟨h1, h2⟩ | ⟨g, cap, cur, h1, h2, h3, h4, _⟩
  · have hL : L = [] := List.eq_nil_of_length_eq_zero h2
    subst hL
    exact ⟨none, 0, h1, .inl rfl, fun _ => rfl, by simp, fun x hx => by cases hx⟩
  · subst h1
    refine ⟨_, _, rfl, owns_lies h, fun h => (by cases h), h4, fun x hx => ?_⟩
    cases hx
    exact ⟨g, rfl, h2, (Array.getElem?_eq_some_iff.1 h3).1⟩
theorem OwnN.place {w : World} {base : Nat} {v : Value} {L : List NearZ} (h : OwnN w base v L) (hL : L ≠ []) : ∃ g c, v = .slice (some ⟨g, 0, none⟩) L.length c ∧ base ≤ g ∧ g < w.heap.size ∧ L.length ≤ c := by
  rcases h.2 with ⟨h1, h2⟩ | ⟨g, cap, cur, h1, h2, h3, h4, _⟩
  · exact absurd (List.eq_nil_of_length_eq_zero h2) hL
  · exact ⟨g, cap, h1, h2, (Array.getElem?_eq_some_iff.1 h3).1, h4⟩
theorem Nears.cells {w : World} {a : Option Addr} {L : List NearZ} (h : Lies w a (cellsOf nearC L)) (i : Nat) (hi : i < L.length) : ∃ b off, a = some ⟨b, off, none⟩ ∧
    w.cell? ⟨b, off + i * 7, none⟩ = some (.int .i64 L[i].id) ∧ w.cell? ⟨b, off + i * 7 + 1, none⟩ = some (.int .i64 L[i].addr) ∧ w.cell? ⟨b, off + i * 7 + 2, none⟩ = some (.int .i64 L[i].prio) ∧ w.cell? ⟨b, off + i * 7 + 3, none⟩ = some (.int .i64 L[i].dr) ∧ w.cell? ⟨b, off + i * 7 + 4, none⟩ = some (.int .i64 L[i].bdr) ∧ w.cell? ⟨b, off + i * 7 + 5, none⟩ = some (.bool L[i].two) ∧ w.cell? ⟨b, off + i * 7 + 6, none⟩ = some (.int .i64 L[i].left) := by
  obtain ⟨b, off, e, hc⟩ := h.cell nearC 7 nearC_length (by rintro rfl; simp at hi) (by omega)
  exact ⟨b, off, e, hc i 0 hi (by omega), hc i 1 hi (by omega), hc i 2 hi (by omega), hc i 3 hi (by omega), hc i 4 hi (by omega), hc i 5 hi (by omega), hc i 6 hi (by omega)⟩
theorem OwnN.cells {w : World} {base g c n : Nat} {L : List NearZ} (h : OwnN w base (.slice (some ⟨g, 0, none⟩) n c) L) (i : Nat) (hi : i < L.length) :
    w.cell? ⟨g, i * 7, none⟩ = some (.int .i64 L[i].id) ∧ w.cell? ⟨g, i * 7 + 1, none⟩ = some (.int .i64 L[i].addr) ∧ w.cell? ⟨g, i * 7 + 2, none⟩ = some (.int .i64 L[i].prio) ∧ w.cell? ⟨g, i * 7 + 3, none⟩ = some (.int .i64 L[i].dr) ∧ w.cell? ⟨g, i * 7 + 4, none⟩ = some (.int .i64 L[i].bdr) ∧ w.cell? ⟨g, i * 7 + 5, none⟩ = some (.bool L[i].two) ∧ w.cell? ⟨g, i * 7 + 6, none⟩ = some (.int .i64 L[i].left) := by
  obtain ⟨a, cc, e, hl, _⟩ := OwnN.more h
  cases e
  obtain ⟨b, off, e, c0, c1, c2, c3, c4, c5, c6⟩ := Nears.cells hl i hi
  cases e
  simp only [Nat.zero_add] at c0 c1 c2 c3 c4 c5 c6
  exact ⟨c0, c1, c2, c3, c4, c5, c6⟩
/-- The row's cells, flat. -/
theorem flat_nears (L : List NearZ) : flatK nearC 7 L.toArray = (cellsOf nearC L).toArray := by
  refine ext_get! (by simp [nears_len]) fun t ht => ?_
  have ht' : t < L.length * 7 := by simpa using ht
  rw [get_flatK _ _ _ _ (by simpa using ht')]
  have hq : t / 7 < L.length := by omega
  have h1 := cellsOf_at nearC 7 nearC_length L (t / 7) (t % 7) hq (by omega)
  rw [show t / 7 * 7 + t % 7 = t by omega] at h1
  have h2 : (L.toArray)[t / 7]! = L[t / 7] := by simp [hq]
  rw [h2]
  simp only [getElem!_def, List.getElem?_toArray, h1]
theorem OwnN.row {w : World} {base g c n : Nat} {L : List NearZ} (h : OwnN w base (.slice (some ⟨g, 0, none⟩) n c) L) : RowK nearC 7 w g 0 L.toArray := by
  obtain ⟨a', c', e, -⟩ := OwnN.more h
  cases e
  refine ⟨nearC_length, nearC_one, ?_, (World.ownsRow.lt h g rfl).2⟩
  unfold HoldsK
  rw [flat_nears]
  intro j hj
  have hj' : j < (cellsOf nearC L).length := by simpa using hj
  refine ⟨?_, by rw [Nat.zero_add]; exact World.ownsRow.frozenAt h j⟩
  have := World.ownsRow.cells h (g := g) rfl j (cellsOf nearC L)[j] (List.getElem?_eq_getElem hj')
  rw [addr_add] at this
  rw [this]
  simp [hj']
theorem take_putCellsN (cur : Array Value) (vs : List Value) (h : vs.length ≤ cur.size) : (putCells id 0 vs.toArray cur).toList.take vs.length = vs := by
  apply List.ext_getElem?
  intro j
  by_cases hj : j < vs.length
  · rw [List.getElem?_take_of_lt hj, Array.getElem?_toList]
    simp [putCells, hj, show j < cur.size by omega]
  · rw [List.getElem?_take_eq_none (by omega), List.getElem?_eq_none (by omega)]
/-- Behind the sort the same slice is the call's own. -/
theorem OwnN.sorted {w W : World} {base g c n : Nat} {L M : List NearZ} (h : OwnN w base (.slice (some ⟨g, 0, none⟩) n c) L) (hl : M.length = L.length) (hW : Nw w g M W) : OwnN W base (.slice (some ⟨g, 0, none⟩) n c) M ∧ Below base w W := by
  obtain ⟨k, os, rfl⟩ := hW
  rcases h.2 with ⟨h1, h2⟩ | ⟨g', cap, cur, h1, h2, h3, h4, h5, h6, h7⟩
  · cases h1
  · cases h1
    have hg : g < w.heap.size := (Array.getElem?_eq_some_iff.1 h3).1
    unfold sortWorldK putRowK
    rw [flat_nears]
    have hh : (grow (putRow id (Sort.ahead w k) g 0 (cellsOf nearC M).toArray) os).heap[g]? = some (.cells (putCells id 0 (cellsOf nearC M).toArray cur) 42 (0, 0)) := by
      rw [heap_grow_old _ _ (by simpa using hg)]
      simp [putRow, mapBlock, Sort.ahead, Array.getElem?_modify, h3, onCells]
    refine ⟨⟨nears_len M, .inr ⟨g, c, _, by rw [hl], h2, hh, by omega, h5, by simp [putCells, h6], ?_⟩⟩, ⟨rfl, rfl, rfl, by simp, fun j hj => ?_⟩⟩
    · rw [← nears_len M]
      exact take_putCellsN cur _ (by rw [nears_len, hl, h6]; exact Nat.mul_le_mul_right _ h4)
    · have hjg : j < g := Nat.lt_of_lt_of_le hj h2
      rw [heap_grow_old _ _ (by simp; omega)]
      simp [putRow, mapBlock, Sort.ahead, Array.getElem?_modify, show ¬ g = j by omega]
/-- append(l, n). -/
theorem wp_append_near {ops : Array Oper} {rest : List Oper} {o : Oper} {a : Act} {Q : Exit → Act → World → Prop} (W : World) (N : Nat) (hN : N = W.heap.size) (hgd : o.guard = none) (s x : Operand)
    (ho : o.op = .call { callee := .builtin .append, args := #[s, x], argTypes := #[22, 22] }) (base : Nat) (v : Value) (L : List NearZ) (hs : a.eval s = v) (hown : OwnN W base v L) (c : NearZ)
    (hx : a.eval x = .slice (some ⟨N, 0, none⟩) 1 1) (hl : L.length + 1 ≤ 1000000) (hbase : base ≤ W.heap.size)
    (h : ∀ v' w', OwnN w' base v' (L ++ [c]) → Below base W w' → wpList Try.prog ops Q rest (a.put o.dst v') w') : wpList Try.prog ops Q (o :: rest) a (W.alloc (.cells (nearA c) 42)) := by
  subst hN
  obtain ⟨i, hi, hz0, hz1, hz2⟩ := info_parts info_near
  have hB : Below W.heap.size W (W.alloc (.cells (nearA c) 42)) := below_new' _ _
  refine wp_append_thing (W.alloc (.cells (nearA c) 42)) hgd s x 22 ho 42 i _ 7 56 Try.underlying22 hi hz0 hz1 hz2 rfl (by decide) base v L.length _ hs (row_below hown hB) _ 1 (nearC c) hx rfl (lies_new W (nearC c) _) (nearC_one c) (by unfold maxLen; omega) (by omega) (by simp; omega) ?_
  intro v' w' h1 h2
  refine h v' w' ?_ ((hB.mono hbase).trans h2)
  unfold OwnN
  rw [nears_app, List.length_append]
  have e : cellsOf nearC [c] = nearC c := by unfold cellsOf; simp
  rw [e]
  exact h1
/-- append([]api.Near(nil), l...). -/
theorem wp_dup_nears {ops : Array Oper} {rest : List Oper} {o : Oper} {a : Act} {Q : Exit → Act → World → Prop} (w : World) (hgd : o.guard = none) (s x : Operand)
    (ho : o.op = .call { callee := .builtin .append, args := #[s, x], argTypes := #[22, 22] }) (hs : a.eval s = .slice none 0 0)
    (ax : Option Addr) (m c : Nat) (L : List NearZ) (hx : a.eval x = .slice ax m c) (hm : m = L.length) (hL : Lies w ax (cellsOf nearC L)) (hnil : ax = none → c = 0) (hl : L.length ≤ 1000000)
    (h : ∀ v' w', OwnN w' w.heap.size v' L → Below w.heap.size w w' → wpList Try.prog ops Q rest (a.put o.dst v') w') : wpList Try.prog ops Q (o :: rest) a w := by
  subst hm
  obtain ⟨i, hi, hz0, hz1, hz2⟩ := info_parts info_near
  have hown : OwnN w w.heap.size (.slice none 0 0) [] := ownN_nil _ _
  cases ax with
  | none =>
    have hL0 : L = [] := by
      rcases hL with e | ⟨_, _, e, _⟩
      · have := nears_len L; rw [e] at this; simp at this; exact List.eq_nil_of_length_eq_zero (by omega)
      · cases e
    subst hL0
    have hc0 := hnil rfl
    subst hc0
    refine wpList_append_own_none hgd s x 22 ho w.heap.size 42 i 7 Try.underlying22 hi _ 0 _ hs hown hx ?_
    exact h _ _ hown (Below.refl _ _)
  | some ad =>
    refine wpList_append_own w hgd s x 22 ho w.heap.size 42 i _ 7 56 Try.underlying22 hi hz0 hz1 hz2 rfl (by decide) _ 0 [] hs hown ad L.length c (cellsOf nearC L) hx (nears_len L) hL.at (nears_one L) (by unfold maxLen; omega) (by omega) (Nat.le_refl _) ?_
    intro v' w' h1 h2 _
    refine h v' w' ?_ ((Below.refl _ _).grown h2 (Nat.le_refl _) (fun k hk => by cases hk))
    unfold OwnN
    simpa using h1
theorem cells_split (L : List NearZ) (k : Nat) (hk : k < L.length) (c : NearZ) : (cellsOf nearC L).take (k * 7) ++ nearC c ++ (cellsOf nearC L).drop (k * 7 + 7) = cellsOf nearC (L.set k c) := by
  have e : L = L.take k ++ (L[k] :: L.drop (k + 1)) := by rw [← List.drop_eq_getElem_cons hk, List.take_append_drop]
  have l1 : (L.take k).length = k := by rw [List.length_take]; omega
  have hs : L.set k c = L.take k ++ (c :: L.drop (k + 1)) := by
    conv => lhs; rw [e]
    rw [List.set_append_right _ _ (by omega), l1, Nat.sub_self, List.set_cons_zero]
  rw [hs]
  conv => lhs; rw [e]
  have e2 : ∀ (x : NearZ) (B : List NearZ), cellsOf nearC (L.take k ++ (x :: B)) = cellsOf nearC (L.take k) ++ (nearC x ++ cellsOf nearC B) := fun x B => by unfold cellsOf; rw [List.flatMap_append, List.flatMap_cons]
  have l2 : (cellsOf nearC (L.take k)).length = k * 7 := by rw [nears_len, l1]
  have l3 : (nearC L[k]).length = 7 := nearC_length _
  rw [e2, e2, List.take_left' l2, show k * 7 + 7 = (cellsOf nearC (L.take k) ++ nearC L[k]).length by rw [List.length_append, l2, l3], ← List.append_assoc, List.drop_left, List.append_assoc]
/-- append(l[:k], n), where l has more than k: n stands at k. -/
theorem wp_append_over {ops : Array Oper} {rest : List Oper} {o : Oper} {a : Act} {Q : Exit → Act → World → Prop} (W : World) (N : Nat) (hN : N = W.heap.size) (hgd : o.guard = none) (s x : Operand)
    (ho : o.op = .call { callee := .builtin .append, args := #[s, x], argTypes := #[22, 22] }) (base g n cap k : Nat) (L : List NearZ) (hs : a.eval s = .slice (some ⟨g, 0, none⟩) k cap) (hown : OwnN W base (.slice (some ⟨g, 0, none⟩) n cap) L) (hk : k < L.length) (c : NearZ)
    (hx : a.eval x = .slice (some ⟨N, 0, none⟩) 1 1) (hbase : base ≤ W.heap.size)
    (h : ∀ w', OwnN w' base (.slice (some ⟨g, 0, none⟩) n cap) (L.set k c) → Below base W w' → wpList Try.prog ops Q rest (a.put o.dst (.slice (some ⟨g, 0, none⟩) (k + 1) cap)) w') : wpList Try.prog ops Q (o :: rest) a (W.alloc (.cells (nearA c) 42)) := by
  subst hN
  obtain ⟨i, hi, hz0, hz1, hz2⟩ := info_parts info_near
  have hB : Below W.heap.size W (W.alloc (.cells (nearA c) 42)) := below_new' _ _
  have h1 := row_below hown hB
  rcases h1.2 with ⟨h', _⟩ | ⟨g', cap', cur, h', hbg, hg, hnc, hcm, hcs, htk⟩
  · cases h'
  · cases h'
    have hroom : k + 1 ≤ cap := by omega
    have hfit : k * i.size + (nearC c).length ≤ cur.size := by
      rw [hz1, nearC_length, hcs]
      have := Nat.mul_le_mul_right 7 hroom
      omega
    have hr := run_append_room (P := Try.prog) (W.alloc (.cells (nearA c) 42)) 22 o.type 42 i Try.underlying22 hi g k cap cur hg ⟨W.heap.size, 0, none⟩ 1 1 (nearC c) (by rw [hz1]; rfl) ((lies_new W (nearC c) _).at) (nearC_one c) hroom hfit
    refine wpList_plain hgd fun K hK => ?_
    unfold Oper.wp execOp
    simp only [ho, resolve, invoke, builtin, Sem.run_bind, Sem.run_pure, Result.andThen_ok, List.map_toArray, List.map_cons, List.map_nil, hs, hx, hr]
    refine hK _ _ (h _ ?_ ?_)
    · refine ⟨nears_len _, .inr ⟨g, cap, _, by rw [List.length_set], hbg, setRow_heap _ g cur _ _ _ hg, by rw [List.length_set]; omega, hcm, ?_, ?_⟩⟩
      · rw [hz1, nearC_length] at hfit
        simp only [List.size_toArray, List.length_append, List.length_take, List.length_drop, Array.length_toList, nearC_length, hz1]
        omega
      · rw [List.length_set, hz1, nearC_length, ← cells_split L k hk c, ← htk]
        have hkl : k * 7 + 7 ≤ L.length * 7 := by have := Nat.mul_le_mul_right 7 (show k + 1 ≤ L.length from hk); omega
        have hcl0 : cur.toList.length = cap * 7 := by simp [hcs]
        have hcl : L.length * 7 ≤ cur.toList.length := by rw [hcl0]; exact Nat.mul_le_mul_right _ hnc
        rw [List.take_take, Nat.min_eq_left (by omega), List.take_append, List.take_of_length_le (by rw [List.length_append, List.length_take, nearC_length]; omega)]
        congr 1
        rw [List.length_append, List.length_take, nearC_length, Nat.min_eq_left (by omega), List.drop_take, show L.length * 7 - (k * 7 + 7) = L.length * 7 - (k * 7 + 7) from rfl]
    · refine (hB.mono hbase).trans ⟨rfl, rfl, rfl, by simp, fun j hj => ?_⟩
      exact setRow_other _ g j _ (by omega)
end Go.Proofs.Ytgljblnegiadlaa
