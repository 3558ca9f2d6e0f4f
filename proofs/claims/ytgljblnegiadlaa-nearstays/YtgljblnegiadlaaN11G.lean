/- One more among neighbors (slices.Insert). -/
import Derived.Test.YtgljblnegiadlaaN11O
import Derived.Test.YtgljblnegiadlaaOG
import Derived.Shelf.Spec.SlicesInsert
import Derived.Lib.AppendZerosOnto
import Derived.Laws.NewBlocks
import Derived.Deep.RegionLaw
namespace Go.Proofs.Ytgljblnegiadlaa
open Go.RowKit Go.Lib
set_option linter.unusedVariables false
set_option linter.unusedSectionVars false
variable [Inhabited NearZ]

/-- How Insert ends. -/
def InsEndN (w : World) (N : Nat) (v : Value) (M : List NearZ) (e : Ending) (w' : World) : Prop := ∃ lv, e = .returned lv ∧ w'.ownsRow N 42 7 lv M.length (cellsOf nearC M) ∧ w.grownBy w' v.ownBlock ∧ Hence w v lv
set_option maxHeartbeats 1600000 in
set_option maxRecDepth 100000 in
theorem insN_end (N : Nat) (a : Option Addr) (c : Nat) (L : List NearZ) (vb : Nat) (r : NearZ) (w : World) (hN : N ≤ w.heap.size) (hown : w.ownsRow N 42 7 (.slice a L.length c) L.length (cellsOf nearC L)) (hl : L.length ≤ 1000000000) (hv : Lies w (some ⟨vb, 0, none⟩) (nearC r)) :
    Calls Try.prog 23 #[.slice a L.length c, .int .i64 L.length, .slice (some ⟨vb, 0, none⟩) 1 1] w (InsEndN w N (.slice a L.length c) (L ++ [r])) := by
  obtain ⟨i, hi, hz0, hz1, hz2⟩ := info_parts info_near
  have HO : Hid (w.ownsRow N 42 7 (.slice a L.length c) L.length (cellsOf nearC L)) := hown
  have HV : Hid (Lies w (some ⟨vb, 0, none⟩) (nearC r)) := hv
  have hcc : (L.length : Int) ≤ (c : Int) := by
    rcases hown.2 with ⟨h1, h2⟩ | ⟨g, cap, cur, h1, _, _, h4, _⟩
    · simp only [Value.slice.injEq] at h1; omega
    · simp only [Value.slice.injEq] at h1; omega
  have hc63 : (c : Int) ≤ 9223372036854775807 := by
    rcases hown.2 with ⟨h1, h2⟩ | ⟨g, cap, cur, h1, _, _, _, h5, _⟩
    · simp only [Value.slice.injEq] at h1; omega
    · simp only [Value.slice.injEq] at h1; unfold maxLen at h5; omega
  clear hown hv
  have hT : Try.prog.underlying 22 = some (.slice 42) := Try.underlying22
  go_enter Try.func23, Try.ntmps23
  cases a with
  | none =>
    have hn0 : L.length = 0 ∧ c = 0 := by
      rcases HO.out.2 with ⟨h1, h2⟩ | ⟨g, cap, cur, h1, _⟩
      · simp only [Value.slice.injEq] at h1; exact ⟨h2, h1.2.2⟩
      · simp at h1
    obtain ⟨hn0, rfl⟩ := hn0
    obtain rfl := List.eq_nil_of_length_eq_zero hn0
    go_wp2_with (at_builtin; go_must (refine wpList_append_hence w rfl _ _ 22 rfl N 42 i _ 7 56 hT hi hz0 hz1 hz2 rfl (by decide) _ 0 _ rfl HO.out ⟨vb, 0, none⟩ 1 1 (nearC r) rfl rfl HV.out.at (nearC_one r) (by unfold maxLen; omega) (by omega) hN ?_))
    intro v' w' h1 h2 h3
    have H1 : Hid (w'.ownsRow N 42 7 v' (0 + 1) (cellsOf nearC [] ++ nearC r)) := h1
    have H2 : Hid (w.grownBy w' (Value.ownBlock (.slice none 0 0))) := h2
    have H3 : Hid (Hence w (.slice none 0 0) v') := h3
    clear h1 h2 h3
    go_wp2
    go_ret
    exact ⟨v', rfl, by simpa [cellsOf] using H1.out, H2.out, H3.out⟩
  | some ad =>
    obtain ⟨g, rfl⟩ : ∃ g, ad = ⟨g, 0, none⟩ := by
      rcases HO.out.2 with ⟨h1, h2⟩ | ⟨g, cap, cur, h1, _⟩
      · simp at h1
      · simp only [Value.slice.injEq, Option.some.injEq] at h1; exact ⟨g, h1.1⟩
    obtain ⟨ad, had⟩ : ∃ ad : Option Addr, (if c = L.length then some (⟨g, 0, none⟩ : Addr) else some ⟨g, L.length * 7, none⟩) = ad := ⟨_, rfl⟩
    go_wp2_with (at_builtin; go_must (refine wpList_append_hence w rfl _ _ 22 rfl N 42 i _ 7 56 hT hi hz0 hz1 hz2 rfl (by decide) _ L.length _ rfl HO.out ⟨vb, 0, none⟩ 1 1 (nearC r) rfl rfl HV.out.at (nearC_one r) (by unfold maxLen; omega) (by omega) hN ?_))
    all_goals
      intro v' w' h1 h2 h3
      have H1 : Hid (w'.ownsRow N 42 7 v' (L.length + 1) (cellsOf nearC L ++ nearC r)) := h1
      have H2 : Hid (w.grownBy w' (Value.ownBlock (.slice (some ⟨g, 0, none⟩) L.length c))) := h2
      have H3 : Hid (Hence w (.slice (some ⟨g, 0, none⟩) L.length c) v') := h3
      clear h1 h2 h3
      go_wp2
      go_ret
      exact ⟨v', rfl, by simpa [cellsOf] using H1.out, H2.out, H3.out⟩

theorem step_append_runI {P : Program} {ops : Array Oper} {o : Oper} {a : Act} {w : World} {K : Act → World → Prop} {Q : Exit → Act → World → Prop} {E : Prop}
    (hg : o.guard = none) (d x : Operand) (dT sT : TypeId) (hop : o.op = Op.call { callee := Callee.builtin Builtin.append, args := #[d, x], argTypes := #[dT, sT] })
    (v u : Value) (hd : a.eval d = v) (hx : a.eval x = u) {v' : Value} {w' : World} (hr : (Builtin.append_ #[dT, sT] o.type #[v, u]).run P w = .ok v' w') (hK : K (a.put o.dst v') w') :
    if Region.wanted o (yielded ops a.tmps) = true then Oper.wp P o a w K Q else E := by
  have hw : Region.wanted o (yielded ops a.tmps) = true := by simp [Region.wanted, hg]
  rw [if_pos hw]
  unfold Oper.wp
  simp [execOp, hop, resolve, invoke, builtin, hd, hx, hr, Result.andThen]
  exact hK
theorem zero_near : ∀ w, (zeroValue 42).run Try.prog w = .ok (.agg #[.int .i64 0, .int .i64 0, .int .i64 0, .int .i64 0, .int .i64 0, .bool false, .int .i64 0]) w := Try.zeroValue42
theorem nears_take (L : List NearZ) (p : Nat) : (cellsOf nearC L).take (p * 7) = cellsOf nearC (L.take p) := by
  induction L generalizing p with
  | nil => simp [cellsOf]
  | cons r L ih =>
    rcases p with _ | p
    · simp [cellsOf]
    · have e : cellsOf nearC (r :: L) = nearC r ++ cellsOf nearC L := rfl
      rw [e, List.take_succ_cons, show cellsOf nearC (r :: L.take p) = nearC r ++ cellsOf nearC (L.take p) from rfl, List.take_append, List.take_of_length_le (by rw [nearC_length]; omega), nearC_length, show (p + 1) * 7 - 7 = p * 7 by omega, ih]
theorem nears_drop (L : List NearZ) (p : Nat) : (cellsOf nearC L).drop (p * 7) = cellsOf nearC (L.drop p) := by
  induction L generalizing p with
  | nil => simp [cellsOf]
  | cons r L ih =>
    rcases p with _ | p
    · simp
    · have e : cellsOf nearC (r :: L) = nearC r ++ cellsOf nearC L := rfl
      rw [e, List.drop_succ_cons, List.drop_append, List.drop_of_length_le (by rw [nearC_length]; omega), nearC_length, show (p + 1) * 7 - 7 = p * 7 by omega, ih, List.nil_append]

theorem insN_cells (L : List NearZ) (p : Nat) (r : NearZ) (hp : p ≤ L.length) (cur c1 : List Value) (hc : cur.take (L.length * 7) = cellsOf nearC L)
    (h1 : c1 = cur.take ((p + 1) * 7) ++ (cellsOf nearC L).drop (p * 7) ++ cur.drop ((L.length + 1) * 7)) (hl : (L.length + 1) * 7 ≤ cur.length) :
    (c1.take (p * 7) ++ nearC r ++ c1.drop (p * 7 + 7)).take ((L.length + 1) * 7) = cellsOf nearC (L.take p ++ r :: L.drop p) := by
  have hx := nears_len L
  have e1 : cur.take (p * 7) = cellsOf nearC (L.take p) := by rw [← nears_take, ← hc, List.take_take]; congr 1; omega
  have e2 : c1.take (p * 7) = cellsOf nearC (L.take p) := by
    rw [h1, List.append_assoc, List.take_append_of_le_length (by rw [List.length_take]; omega), List.take_take, ← e1]; congr 1; omega
  have e3 : c1.drop (p * 7 + 7) = cellsOf nearC (L.drop p) ++ cur.drop ((L.length + 1) * 7) := by
    rw [h1, List.append_assoc, List.drop_append, List.drop_of_length_le (by rw [List.length_take]; omega), List.length_take, show p * 7 + 7 - min ((p + 1) * 7) cur.length = 0 by omega, nears_drop]; rfl
  rw [e2, e3, show cellsOf nearC (L.take p ++ r :: L.drop p) = cellsOf nearC (L.take p) ++ nearC r ++ cellsOf nearC (L.drop p) by rw [nears_app, List.append_assoc]; rfl, ← List.append_assoc]
  have h2 := nears_len (L.take p)
  have h3 := nears_len (L.drop p)
  rw [List.take_append_of_le_length (by simp only [List.length_append, nearC_length, h2, h3, List.length_take, List.length_drop]; omega), List.take_of_length_le (by simp only [List.length_append, nearC_length, h2, h3, List.length_take, List.length_drop]; omega)]
set_option maxHeartbeats 1600000 in
set_option maxRecDepth 100000 in
theorem insN_shift (N g c : Nat) (L : List NearZ) (p vb : Nat) (r : NearZ) (w : World) (hown : w.ownsRow N 42 7 (.slice (some ⟨g, 0, none⟩) L.length c) L.length (cellsOf nearC L)) (hp : p < L.length) (hroom : L.length + 1 ≤ c)
    (hvb : w.heap[vb]? = some (.cells (nearC r).toArray 42 (0, 0))) (hne : vb ≠ g) :
    Calls Try.prog 23 #[.slice (some ⟨g, 0, none⟩) L.length c, .int .i64 p, .slice (some ⟨vb, 0, none⟩) 1 1] w (InsEndN w N (.slice (some ⟨g, 0, none⟩) L.length c) (L.take p ++ r :: L.drop p)) := by
  obtain ⟨i, hi, hz0, hz1, hz2⟩ := info_parts info_near
  obtain ⟨cur, hNg, hg, hcm, hcs, htk⟩ : ∃ cur, N ≤ g ∧ w.heap[g]? = some (.cells cur 42 (0, 0)) ∧ c ≤ maxLen ∧ cur.size = c * 7 ∧ cur.toList.take (L.length * 7) = cellsOf nearC L := by
    rcases hown.2 with ⟨h1, h2⟩ | ⟨g', cap, cur, h1, h2, h3, h4, h5, h6, h7⟩
    · simp at h1
    · simp only [Value.slice.injEq, Option.some.injEq, Addr.mk.injEq, and_true, true_and] at h1
      obtain ⟨rfl, rfl⟩ := h1
      exact ⟨cur, h2, h3, h5, h6, h7⟩
  have hT : Try.prog.underlying 22 = some (.slice 42) := Try.underlying22
  have hov : ∀ lb cb, (callFunc 30 #[.slice (some ⟨vb, 0, none⟩) 1 1, .slice (some ⟨g, (p + 1) * 7, none⟩) lb cb]).run Try.prog w = .ok (.value (.bool false)) w := fun lb cb => by
    rw [run_callFunc_extern Try.func30 (by kernel_rfl) (by kernel_rfl) (by kernel_rfl) (e := Extern.SlicesOverlaps.overlaps #[22, 22] #[4]) (by kernel_rfl),
      Lib.run_overlaps_apart w 22 4 42 hT 7 Try.sizeOf42 ⟨vb, 0, none⟩ ⟨g, (p + 1) * 7, none⟩ 1 1 lb cb hne 42 42 7 (c * 7) (by simp [World.shape?, hvb, nearC_length]) (by simp [World.shape?, hg, hcs]) (by omega) (by simp [World.frozen?, hvb]) (by simp [World.frozen?, hvb])]
    rfl
  have hcl : cur.toList.length = c * 7 := by simpa using hcs
  have hx := nears_len L
  have hxl : ((cellsOf nearC L).drop (p * 7)).length = (L.length - p) * 7 := by rw [List.length_drop, hx]; omega
  have h1x : ∀ u ∈ (cellsOf nearC L).drop (p * 7), u.oneCell' = true := fun u hu => nears_one L u (List.mem_of_mem_drop hu)
  obtain ⟨C1, hC1⟩ : ∃ C1 : Array Value, (cur.toList.take ((p + 1) * 7) ++ (cellsOf nearC L).drop (p * 7) ++ cur.toList.drop ((p + 1) * 7 + ((cellsOf nearC L).drop (p * 7)).length)).toArray = C1 := ⟨_, rfl⟩
  have hrA : ∀ ty, (Builtin.copy_ #[22, 22] ty #[.slice (some ⟨g, (p + 1) * 7, none⟩) (L.length + 1 - (p + 1)) (c - (p + 1)), .slice (some ⟨g, p * 7, none⟩) (L.length + 1 - p) (c - p)]).run Try.prog w.drew = .ok (goInt (L.length - p : Nat)) (w.drew.setRow g C1) := fun ty => by
    rw [← hC1]
    exact run_copy_at (P := Try.prog) w.drew _ _ ty 42 i g ((p + 1) * 7) (L.length + 1 - (p + 1)) (c - (p + 1)) ⟨g, p * 7, none⟩ (L.length + 1 - p) (c - p) (L.length - p) cur 42 _ hT hi hg (by simp only [Nat.min_def]; split <;> omega) (by rw [hz1]; exact hxl) (fun j u hu => by
      rw [addr_add]
      rw [List.getElem?_drop] at hu
      have := World.ownsRow.cells hown (g := g) rfl _ u hu
      rw [addr_add, Nat.zero_add] at this
      exact this) (by rw [hxl, hcs]; omega) h1x
  have hC1s : C1.size = c * 7 := by
    rw [← hC1]; simp only [List.size_toArray, List.length_append, List.length_take, List.length_drop, Array.length_toList, hx]; omega
  have hg1 : (w.drew.setRow g C1).heap[g]? = some (.cells C1 42 (0, 0)) := setRow_heap w.drew g cur C1 _ _ hg
  have hvb1 : (w.drew.setRow g C1).heap[vb]? = some (.cells (nearC r).toArray 42 (0, 0)) := by rw [setRow_other _ g vb C1 hne]; exact hvb
  obtain ⟨W1, hW1⟩ : ∃ W1, w.drew.setRow g C1 = W1 := ⟨_, rfl⟩
  rw [hW1] at hrA hg1 hvb1
  obtain ⟨C2, hC2⟩ : ∃ C2 : Array Value, (C1.toList.take (p * 7) ++ nearC r ++ C1.toList.drop (p * 7 + (nearC r).length)).toArray = C2 := ⟨_, rfl⟩
  have hrC : ∀ ty, (Builtin.copy_ #[22, 22] ty #[.slice (some ⟨g, p * 7, none⟩) (L.length + 1 - p) (c - p), .slice (some ⟨vb, 0, none⟩) 1 1]).run Try.prog W1 = .ok (goInt (1 : Nat)) (W1.setRow g C2) := fun ty => by
    rw [← hC2]
    exact run_copy_at (P := Try.prog) W1 _ _ ty 42 i g (p * 7) (L.length + 1 - p) (c - p) ⟨vb, 0, none⟩ 1 1 1 C1 42 _ hT hi hg1 (by simp only [Nat.min_def]; split <;> omega) (by rw [hz1]; rfl) (fun j u hu => by rw [addr_add, Nat.zero_add]; simp [World.cell?, hvb1]; exact hu) (by rw [hC1s, nearC_length]; omega) (nearC_one r)
  have hC2s : C2.size = c * 7 := by
    rw [← hC2]; simp only [List.size_toArray, List.length_append, List.length_take, List.length_drop, Array.length_toList, nearC_length, hC1s]; omega
  have hC2l : C2.toList.take ((L.length + 1) * 7) = cellsOf nearC (L.take p ++ r :: L.drop p) := by
    have := insN_cells L p r (by omega) cur.toList C1.toList htk (by rw [← hC1, hxl, show (p + 1) * 7 + (L.length - p) * 7 = (L.length + 1) * 7 by omega]) (by omega)
    rw [← hC2, nearC_length]
    exact this
  have HE : Hid ((W1.setRow g C2).ownsRow N 42 7 (.slice (some ⟨g, 0, none⟩) (L.length + 1) c) (L.length + 1) (cellsOf nearC (L.take p ++ r :: L.drop p)) ∧ w.grownBy (W1.setRow g C2) (some g)) := by
    refine ⟨⟨by rw [nears_len]; simp; omega, .inr ⟨g, c, C2, rfl, hNg, setRow_heap W1 g C1 C2 _ _ hg1, hroom, hcm, hC2s, hC2l⟩⟩, ?_⟩
    subst hW1
    exact ⟨rfl, rfl, rfl, by simp [World.setRow], fun k hk hne => by
      have hkg : k ≠ g := fun e => hne (by rw [e])
      rw [setRow_other _ g k C2 hkg, setRow_other _ g k C1 hkg]; rfl⟩
  have hML : (L.take p ++ r :: L.drop p).length = L.length + 1 := by simp; omega
  have hcc : (L.length : Int) + 1 ≤ (c : Int) := by omega
  have hc63 : (c : Int) ≤ 9223372036854775807 := by unfold maxLen at hcm; omega
  have hpp : (p : Int) + 1 ≤ (L.length : Int) := by omega
  have hne2 : ¬ ((p : Int) = (L.length : Int)) := by omega
  have hn1 : ¬ (c = p) := by omega
  have hn2 : ¬ (c = p + 1) := by omega
  have hpN : p ≤ c := by omega
  have hnN : L.length + 1 ≤ c := by omega
  have hpN1 : p + 1 ≤ L.length + 1 := by omega
  have hp0 : (0 : Int) ≤ (p : Int) + 1 := by omega
  have hw1 : IntKind.i64.wrap ((p : Int) + 1) = (p : Int) + 1 := by rw [IntKind.wrap_i64]; omega
  have htn : ((p : Int) + 1).toNat = p + 1 := by omega
  have hb3 : (p : Int) ≤ (L.length : Int) + 1 := by omega
  have hb4 : (p : Int) + 1 ≤ (L.length : Int) + 1 := by omega
  clear hcl hC2 hC2s hC2l hg1 hvb1 hW1 hC1 hC1s h1x hxl hx hown hcs htk hg hcm hz0 hz1 hz2 hi i hvb hp hroom
  go_enter Try.func23, Try.ntmps23
  go_wp2_with (simp only [hov])
  go_region_law (refine step_copy_runI rfl _ _ 22 22 rfl _ _ (by simp [Act.eval, Act.put]) (by simp [Act.eval, Act.put]) (hrA _) ?_)
  go_wp2_with (at_builtin; go_must (refine wpList_copy_runI W1 rfl _ _ 22 22 rfl _ _ rfl rfl (hrC _) ?_))
  go_ret
  exact ⟨_, rfl, by rw [hML]; exact HE.out.1, HE.out.2, .inl rfl⟩

theorem insN_cells2 (L : List NearZ) (p : Nat) (r : NearZ) (hp : p ≤ L.length) (row c1 : List Value) (hc : row.take (p * 7) = cellsOf nearC (L.take p))
    (h1 : c1 = row.take (p * 7) ++ nearC r ++ row.drop (p * 7 + 7)) :
    (c1.take ((p + 1) * 7) ++ (cellsOf nearC L).drop (p * 7) ++ c1.drop ((p + 1) * 7 + ((cellsOf nearC L).drop (p * 7)).length)).take ((L.length + 1) * 7) = cellsOf nearC (L.take p ++ r :: L.drop p) := by
  have e2 : c1.take ((p + 1) * 7) = cellsOf nearC (L.take p) ++ nearC r := by
    rw [h1, hc, List.take_append_of_le_length (by rw [List.length_append, nears_len, nearC_length, List.length_take]; omega), List.take_of_length_le (by rw [List.length_append, nears_len, nearC_length, List.length_take]; omega)]
  rw [e2, nears_drop, show cellsOf nearC (L.take p ++ r :: L.drop p) = cellsOf nearC (L.take p) ++ nearC r ++ cellsOf nearC (L.drop p) by rw [nears_app, List.append_assoc]; rfl]
  have h2 := nears_len (L.take p)
  have h3 := nears_len (L.drop p)
  rw [List.take_append_of_le_length (by simp only [List.length_append, nearC_length, h2, h3, List.length_take, List.length_drop]; omega), List.take_of_length_le (by simp only [List.length_append, nearC_length, h2, h3, List.length_take, List.length_drop]; omega)]
set_option maxHeartbeats 1600000 in
set_option maxRecDepth 100000 in
theorem insN_grow (N g c : Nat) (L : List NearZ) (p vb : Nat) (r : NearZ) (w : World) (hN : N ≤ w.heap.size) (hown : w.ownsRow N 42 7 (.slice (some ⟨g, 0, none⟩) L.length c) L.length (cellsOf nearC L)) (hl : L.length ≤ 1000000000) (hp : p < L.length) (hroom : ¬ L.length + 1 ≤ c)
    (hvb : w.heap[vb]? = some (.cells (nearC r).toArray 42 (0, 0))) (hne : vb ≠ g) :
    Calls Try.prog 23 #[.slice (some ⟨g, 0, none⟩) L.length c, .int .i64 p, .slice (some ⟨vb, 0, none⟩) 1 1] w (InsEndN w N (.slice (some ⟨g, 0, none⟩) L.length c) (L.take p ++ r :: L.drop p)) := by
  obtain ⟨i, hi, hz0, hz1, hz2⟩ := info_parts info_near
  obtain ⟨cur, hg, hnc, hcs, htk⟩ : ∃ cur, w.heap[g]? = some (.cells cur 42 (0, 0)) ∧ L.length ≤ c ∧ cur.size = c * 7 ∧ cur.toList.take (L.length * 7) = cellsOf nearC L := by
    rcases hown.2 with ⟨h1, h2⟩ | ⟨g', cap, cur, h1, h2, h3, h4, h5, h6, h7⟩
    · simp at h1
    · simp only [Value.slice.injEq, Option.some.injEq, Addr.mk.injEq, and_true, true_and] at h1
      obtain ⟨rfl, rfl⟩ := h1
      exact ⟨cur, h3, h4, h6, h7⟩
  obtain rfl : c = L.length := by omega
  have hT : Try.prog.underlying 22 = some (.slice 42) := Try.underlying22
  have hgw : g < w.heap.size := (Array.getElem?_eq_some_iff.1 hg).1
  have hvw : vb < w.heap.size := (Array.getElem?_eq_some_iff.1 hvb).1
  have hx := nears_len L
  have hsrc : ∀ k j u, ((cellsOf nearC L).drop k)[j]? = some u → w.cell? ⟨g, k + j, none⟩ = some u := fun k j u hu => by
    rw [List.getElem?_drop] at hu
    have := World.ownsRow.cells hown (g := g) rfl _ u hu
    rw [addr_add, Nat.zero_add] at this
    exact this
  have hold : (Builtin.firstCells i.size p (.slice (some ⟨g, 0, none⟩) p L.length)).run Try.prog w.drew = .ok (cellsOf nearC (L.take p)).toArray w.drew := by
    rw [hz1]
    refine run_firstCells_some (P := Try.prog) w.drew 7 p ⟨g, 0, none⟩ p L.length _ (by rw [nears_len, List.length_take]; omega) (fun j u hu => ?_)
    rw [addr_add, ← nears_take] at *
    rw [List.getElem?_take] at hu
    split at hu
    · exact hsrc 0 j u hu
    · cases hu
  obtain ⟨G, hG⟩ : ∃ G, grownCap w (L.length + 1) L.length 42 = G := ⟨_, rfl⟩
  have hGn : L.length + 1 ≤ G := by rw [← hG]; exact grownCap_ge w _ _ _
  have hGm : G ≤ maxLen := by rw [← hG]; exact grownCap_le_maxLen w _ _ _ (by unfold maxLen; omega)
  obtain ⟨ROW, hROW⟩ : ∃ ROW : Array Value, (cellsOf nearC (L.take p)).toArray ++ Builtin.zeroCells (Value.cells (.agg #[.int .i64 0, .int .i64 0, .int .i64 0, .int .i64 0, .int .i64 0, .bool false, .int .i64 0])) (L.length + 1 - p) ++ Builtin.zeroCells (Value.cells (.agg #[.int .i64 0, .int .i64 0, .int .i64 0, .int .i64 0, .int .i64 0, .bool false, .int .i64 0])) (G - (L.length + 1)) = ROW := ⟨_, rfl⟩
  have hRs : ROW.size = G * 7 := by
    rw [← hROW]
    simp only [Array.size_append, size_zeroCells, List.size_toArray, nears_len, List.length_take]
    show _ + (L.length + 1 - p) * 7 + (G - (L.length + 1)) * 7 = _
    omega
  have hRt : ROW.toList.take (p * 7) = cellsOf nearC (L.take p) := by
    rw [← hROW]
    simp only [Array.toList_append, List.append_assoc]
    rw [List.take_append_of_le_length (by rw [nears_len, List.length_take]; omega), List.take_of_length_le (by rw [nears_len, List.length_take]; omega)]
  have hrZ : ∀ ty, (Builtin.append_ #[22, 3] ty #[.slice (some ⟨g, 0, none⟩) p L.length, .int .i64 ((L.length : Int) + 1 - (p : Int))]).run Try.prog w = .ok (.slice (some ⟨w.heap.size, 0, none⟩) (L.length + 1) G) (w.drew.alloc (.cells ROW 42)) := fun ty => by
    have hk : p + (L.length + 1 - p) = L.length + 1 := by omega
    have h := Lib.run_append_grow_zeros (P := Try.prog) w 22 3 ty 42 i _ .i64 .i64 hT Try.underlying3 hi hz0 (some ⟨g, 0, none⟩) p L.length (cellsOf nearC (L.take p)) hold (L.length + 1 - p) (by omega) (by omega) (by omega) (by omega) (by rw [hz2]; omega) (by rw [hz2, hk]; exact growslice_fits (by omega) (by omega))
    rw [hk, hG, hROW, show ((L.length + 1 - p : Nat) : Int) = (L.length : Int) + 1 - (p : Int) by omega] at h
    exact h
  obtain ⟨C1, hC1⟩ : ∃ C1 : Array Value, (ROW.toList.take (p * 7) ++ nearC r ++ ROW.toList.drop (p * 7 + (nearC r).length)).toArray = C1 := ⟨_, rfl⟩
  have hrA : ∀ W : World, W.heap = (w.drew.alloc (.cells ROW 42)).heap → ∀ ty, (Builtin.copy_ #[22, 22] ty #[.slice (some ⟨w.heap.size, p * 7, none⟩) (L.length + 1 - p) (G - p), .slice (some ⟨vb, 0, none⟩) 1 1]).run Try.prog W = .ok (goInt (1 : Nat)) (W.setRow w.heap.size C1) := fun W hW ty => by
    rw [← hC1]
    refine run_copy_at (P := Try.prog) W _ _ ty 42 i w.heap.size (p * 7) (L.length + 1 - p) (G - p) ⟨vb, 0, none⟩ 1 1 1 ROW 42 _ hT hi (by rw [hW]; exact heap_alloc_new w.drew _) (by simp only [Nat.min_def]; split <;> omega) (by rw [hz1]; rfl) (fun j u hu => ?_) (by rw [hRs, nearC_length]; omega) (nearC_one r)
    rw [addr_add, Nat.zero_add]
    have : W.heap[vb]? = some (.cells (nearC r).toArray 42 (0, 0)) := by rw [hW, heap_alloc_old w.drew _ hvw]; exact hvb
    simp [World.cell?, this]; exact hu
  have hC1s : C1.size = G * 7 := by
    rw [← hC1]; simp only [List.size_toArray, List.length_append, List.length_take, List.length_drop, Array.length_toList, nearC_length, hRs]; omega
  obtain ⟨C2, hC2⟩ : ∃ C2 : Array Value, (C1.toList.take ((p + 1) * 7) ++ (cellsOf nearC L).drop (p * 7) ++ C1.toList.drop ((p + 1) * 7 + ((cellsOf nearC L).drop (p * 7)).length)).toArray = C2 := ⟨_, rfl⟩
  have hxl : ((cellsOf nearC L).drop (p * 7)).length = (L.length - p) * 7 := by rw [List.length_drop, hx]; omega
  have hrB : ∀ W : World, W.heap = ((w.drew.alloc (.cells ROW 42)).setRow w.heap.size C1).heap → ∀ ty, (Builtin.copy_ #[22, 22] ty #[.slice (some ⟨w.heap.size, (p + 1) * 7, none⟩) (L.length + 1 - (p + 1)) (G - (p + 1)), .slice (some ⟨g, p * 7, none⟩) (L.length - p) (L.length - p)]).run Try.prog W = .ok (goInt (L.length - p : Nat)) (W.setRow w.heap.size C2) := fun W hW ty => by
    rw [← hC2]
    refine run_copy_at (P := Try.prog) W _ _ ty 42 i w.heap.size ((p + 1) * 7) (L.length + 1 - (p + 1)) (G - (p + 1)) ⟨g, p * 7, none⟩ (L.length - p) (L.length - p) (L.length - p) C1 42 _ hT hi (by rw [hW]; exact setRow_heap _ _ _ _ _ _ (heap_alloc_new w.drew _)) (by simp only [Nat.min_def]; split <;> omega) (by rw [hz1]; exact hxl) (fun j u hu => ?_) (by rw [hxl, hC1s]; omega) (fun u hu => nears_one L u (List.mem_of_mem_drop hu))
    rw [addr_add, ← hsrc (p * 7) j u hu]
    refine World.cell?_of_block ?_
    show W.heap[g]? = w.heap[g]?
    rw [hW, setRow_other _ _ g C1 (by omega), heap_alloc_old w.drew _ hgw]; rfl
  have hC2s : C2.size = G * 7 := by
    rw [← hC2]; simp only [List.size_toArray, List.length_append, List.length_take, List.length_drop, Array.length_toList, hx, hC1s]; omega
  have hC2l : C2.toList.take ((L.length + 1) * 7) = cellsOf nearC (L.take p ++ r :: L.drop p) := by
    have := insN_cells2 L p r (by omega) ROW.toList C1.toList hRt (by rw [← hC1]; rfl)
    rw [← hC2]
    exact this
  have hML : (L.take p ++ r :: L.drop p).length = L.length + 1 := by simp; omega
  have HE : Hid (∀ W : World, W.heap = (((w.drew.alloc (.cells ROW 42)).setRow w.heap.size C1).setRow w.heap.size C2).heap → W.os = w.os → W.tape = w.tape → W.output = w.output → InsEndN w N (.slice (some ⟨g, 0, none⟩) L.length L.length) (L.take p ++ r :: L.drop p) (.returned (.slice (some ⟨w.heap.size, 0, none⟩) (L.length + 1) G)) W) := by
    intro W hW h1 h2 h3
    refine ⟨_, rfl, ?_, ⟨h1, h2, h3, by rw [hW]; simp [World.setRow], fun k hk _ => ?_⟩, .inr fun k hk => ?_⟩
    · rw [hML]
      refine ⟨by rw [nears_len, hML], .inr ⟨w.heap.size, G, C2, rfl, hN, ?_, hGn, hGm, hC2s, hC2l⟩⟩
      rw [hW]
      exact setRow_heap _ _ C1 _ _ _ (setRow_heap _ _ _ _ _ _ (heap_alloc_new w.drew _))
    · rw [hW, setRow_other _ _ k C2 (by omega), setRow_other _ _ k C1 (by omega), heap_alloc_old w.drew _ hk]; rfl
    · simp [Value.ownBlock] at hk; omega
  have hpp : (p : Int) + 1 ≤ (L.length : Int) := by omega
  have hne2 : ¬ ((p : Int) = (L.length : Int)) := by omega
  have hn1 : ¬ (G = p) := by omega
  have hn2 : ¬ (G = p + 1) := by omega
  have hn3 : ¬ (L.length = p) := by omega
  have hpN : p ≤ L.length := by omega
  have hpN1 : p + 1 ≤ L.length + 1 := by omega
  have hp0 : (0 : Int) ≤ (p : Int) + 1 := by omega
  have hw1 : IntKind.i64.wrap ((p : Int) + 1) = (p : Int) + 1 := by rw [IntKind.wrap_i64]; omega
  have htn : ((p : Int) + 1).toNat = p + 1 := by omega
  have hb3 : (p : Int) ≤ (L.length : Int) + 1 := by omega
  have hb4 : (p : Int) + 1 ≤ (L.length : Int) + 1 := by omega
  have hlI : (L.length : Int) ≤ 1000000000 := by omega
  have hrA1 := hrA ((w.alloc (.cells ROW 42)).drew) rfl
  have hrB1 := hrB ((((w.alloc (.cells ROW 42)).drew).setRow w.heap.size C1).drew) rfl
  clear hrA hrB
  clear hC2l hC2s hxl hC2 hC1s hC1 hRt hRs hROW hGm hGn hG hold hsrc hx htk hcs hnc hg hown hvb hne hgw hvw hz0 hz1 hz2 hi i hN hp hroom hML
  go_enter Try.func23, Try.ntmps23
  go_wp2_with (first
    | (at_builtin; refine Lib.wpList_append_run _ rfl _ _ _ _ rfl _ _ rfl rfl _ _ (hrZ _) ?_)
    | (at_builtin; refine wpList_copy_runI _ rfl _ _ 22 22 rfl _ _ rfl rfl (hrA1 _) ?_))
  go_region_law (refine step_copy_runI rfl _ _ 22 22 rfl _ _ (by simp [Act.eval, Act.put]) (by simp [Act.eval, Act.put]) (hrB1 _) ?_)
  go_wp2
  go_ret
  exact HE.out _ rfl rfl rfl rfl
theorem insN_any (N : Nat) (v : Value) (L : List NearZ) (p vb : Nat) (x : NearZ) (w : World) (hN : N ≤ w.heap.size) (hown : OwnN w N v L) (hl : L.length ≤ 1000000) (hp : p ≤ L.length)
    (hvb : w.heap[vb]? = some (.cells (nearC x).toArray 42 (0, 0))) (hne : ∀ k, v.ownBlock = some k → vb ≠ k) :
    Calls Try.prog 23 #[v, .int .i64 p, .slice (some ⟨vb, 0, none⟩) 1 1] w fun e w' => ∃ v', e = .returned v' ∧ OwnN w' N v' (L.take p ++ x :: L.drop p) ∧ Below N w w' := by
  have hlies : Lies w (some ⟨vb, 0, none⟩) (nearC x) := .inr ⟨vb, 0, rfl, fun i hi => by simp [World.cell?, hvb]⟩
  have hend : ∀ M e w', InsEndN w N v M e w' → ∃ v', e = .returned v' ∧ OwnN w' N v' M ∧ Below N w w' := fun M e w' ⟨lv, h1, h2, h3, h4⟩ =>
    ⟨lv, h1, h2, (Below.refl _ _).grown h3 hN (fun k hk => (World.ownsRow.lt hown k hk).1)⟩
  obtain ⟨a, c, e, -, -, hc, hg⟩ := OwnN.more hown
  subst e
  rcases Nat.lt_or_eq_of_le hp with hlt | rfl
  · have hL : L ≠ [] := by rintro rfl; simp at hlt
    obtain ⟨g, c', e, -, -, -⟩ := OwnN.place hown hL
    simp only [Value.slice.injEq] at e
    obtain ⟨rfl, -, rfl⟩ := e
    have hng : vb ≠ g := hne g rfl
    by_cases hroom : L.length + 1 ≤ c
    · exact (insN_shift N g c L p vb x w hown hlt hroom hvb hng).mono fun e w' h => hend _ e w' h
    · exact (insN_grow N g c L p vb x w hN hown (by omega) hlt hroom hvb hng).mono fun e w' h => hend _ e w' h
  · rw [List.take_of_length_le (Nat.le_refl _), List.drop_of_length_le (Nat.le_refl _)]
    exact (insN_end N a c L vb x w hN hown (by omega) hlies).mono fun e w' h => hend _ e w' h
end Go.Proofs.Ytgljblnegiadlaa
