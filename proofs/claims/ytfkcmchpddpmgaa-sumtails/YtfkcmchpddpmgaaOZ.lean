/- Noughts appended to a row of bytes that the call itself made: gc's append of a make. -/
import Derived.Test.YtfkcmchpddpmgaaOB
import Derived.Lib.AppendZerosOnto
namespace Go.Proofs.Ytfkcmchpddpmgaa
open Go.RowKit

theorem zeroCells_u8 (k : Nat) : Builtin.zeroCells (Value.int .u8 0).cells k = (List.replicate k (Value.int .u8 0)).toArray := by
  apply Array.ext
  · simp [Builtin.zeroCells, Value.cells]
  · intro i h1 h2
    simp [Builtin.zeroCells, Value.cells, Nat.mod_one]
theorem zeros_cells (ys : List Int) (k : Nat) : ys.map (Value.int .u8) ++ List.replicate k (Value.int .u8 0) = (ys ++ List.replicate k 0).map (Value.int .u8) := by simp
theorem run_zeros_room {P : Program} (w : World) (t tn ty e : TypeId) (i : TypeInfo) (z : Value) (kn : IntKind) (ht : P.underlying t = some (.slice e)) (htn : P.underlying tn = some (.int kn)) (hi : P.info? e = some i) (hz : i.zero = some z) (hs1 : i.size = 1) (hb1 : i.bytes = 1)
    (g sLen sCap : Nat) (cur : Array Value) (hg : w.heap[g]? = some (.cells cur e (0, 0))) (k : Nat) (h0 : 0 < k) (hroom : sLen + k ≤ sCap) (hz1 : z.cells = #[z]) (h1 : z.oneCell' = true) (hfit : sLen + k ≤ cur.size) (hk48 : k ≤ 281474976710656) :
    (Builtin.append_ #[t, tn] ty #[.slice (some ⟨g, 0, none⟩) sLen sCap, .int .i64 k]).run P w =
      .ok (.slice (some ⟨g, 0, none⟩) (sLen + k) sCap) (w.setRow g (cur.toList.take sLen ++ (Builtin.zeroCells z.cells k).toList ++ cur.toList.drop (sLen + k)).toArray) := by
  have hsz : (Builtin.zeroCells z.cells k).toList.length = k := by simp [size_zeroCells, hz1]
  have hst := run_storeCells_at P g sLen e (Builtin.zeroCells z.cells k).toList 0 cur w hg (by rw [hsz]; simpa using hfit) (fun v hv => by
    simp [Builtin.zeroCells, hz1, Nat.mod_one] at hv
    obtain ⟨_, _, rfl⟩ := hv
    exact h1)
  simp only [Nat.add_zero, hsz] at hst
  have hw : IntKind.i64.wrap (k : Int) = k := by rw [IntKind.wrap_i64]; omega
  have hneg : ¬ ((k : Int) < 0) := by omega
  have hk : k ≠ 0 := by omega
  have h48i : ¬ (281474976710656 < (k : Int)) := by omega
  simp [Builtin.append_, run_underlying ht, run_underlying htn, sizeOf, typeInfo, zeroValue, hi, hz, hs1, hb1, asInt, asIntOf, hw, hneg, hk, h48i, hroom, Addr.add_lit, hst]
theorem run_zeros_none {P : Program} (w : World) (t tn ty e : TypeId) (i : TypeInfo) (kn : IntKind) (ht : P.underlying t = some (.slice e)) (htn : P.underlying tn = some (.int kn)) (hi : P.info? e = some i) (hb1 : i.bytes = 1)
    (g sLen sCap : Nat) (hroom : sLen ≤ sCap) :
    (Builtin.append_ #[t, tn] ty #[.slice (some ⟨g, 0, none⟩) sLen sCap, .int .i64 0]).run P w = .ok (.slice (some ⟨g, 0, none⟩) sLen sCap) w := by
  have hw : IntKind.i64.wrap 0 = 0 := by rw [IntKind.wrap_i64]; omega
  simp [Builtin.append_, run_underlying ht, run_underlying htn, sizeOf, typeInfo, hi, hb1, asInt, asIntOf, hw, hroom, storeCells]

/-- What it leaves, with room or without. -/
theorem run_zeros_own (ty : TypeId) (w : World) (base g cap : Nat) (ys : List Int) (k : Nat) (hown : Owns w base g cap ys) (hl : ys.length + k ≤ 140737488355328) (hbase : base ≤ w.heap.size) :
    ∃ g' cp w', (Builtin.append_ #[22, 3] ty #[.slice (some ⟨g, 0, none⟩) ys.length cap, .int .i64 k]).run Try.prog w = .ok (.slice (some ⟨g', 0, none⟩) (ys.length + k) cp) w' ∧ Owns w' base g' cp (ys ++ List.replicate k 0) ∧ w.grownBy w' (some g) := by
  obtain ⟨i, hi, hz0, hz1, hz2⟩ := info_parts info_u8
  have hcl := hown.cell
  have hcap := hown.cap
  rcases Nat.eq_zero_or_pos k with hk | hk
  · subst hk
    refine ⟨g, cap, w, ?_, by simpa using hown, ⟨rfl, rfl, rfl, Nat.le_refl _, fun _ _ _ => rfl⟩⟩
    exact run_zeros_none w 22 3 ty 5 i .i64 Try.underlying22 Try.underlying3 hi hz2 g ys.length cap hcap
  · have hlen : (ys ++ List.replicate k 0 : List Int).length = ys.length + k := by simp
    by_cases hroom : ys.length + k ≤ cap
    · rcases hown.2 with ⟨h', _⟩ | ⟨g', cap', cur, h', hbg, hg, hnc, hcm, hcs, htake⟩
      · cases h'
      · have e : g' = g ∧ cap' = cap := by simp only [Value.slice.injEq, Option.some.injEq, Addr.mk.injEq] at h'; omega
        obtain ⟨rfl, rfl⟩ := e
        have hr := run_zeros_room w 22 3 ty 5 i (.int .u8 0) .i64 Try.underlying22 Try.underlying3 hi hz0 hz1 hz2 g' ys.length cap' cur hg k hk hroom rfl rfl (by omega) (by omega)
        rw [zeroCells_u8] at hr
        refine ⟨g', cap', _, hr, ⟨by simp, .inr ⟨g', cap', _, by rw [hlen], hbg, setRow_heap w g' cur _ _ _ hg, by rw [hlen]; exact hroom, hcm, ?_, ?_⟩⟩, ⟨rfl, rfl, rfl, by simp, fun j _ hj => setRow_other w g' j _ (fun e => hj (by rw [e]))⟩⟩
        · simp; omega
        · simp only [Nat.mul_one] at htake
          rw [htake, ← zeros_cells, Nat.mul_one, hlen]
          have e2 : ys.length + k = (ys.map (Value.int .u8) ++ List.replicate k (Value.int .u8 0)).length := by simp
          rw [e2]
          exact List.take_left
    · have hold := run_firstCells_some (P := Try.prog) w.drew 1 ys.length ⟨g, 0, none⟩ ys.length cap (ys.map (Value.int .u8)) (by simp) (by
        intro j v hj
        have hjl : j < ys.length := by have := (List.getElem?_eq_some_iff.1 hj).1; simpa using this
        have hv : v = .int .u8 (ys.getD j 0) := by
          simp [hjl] at hj
          simp [hjl, hj]
        have hc := hcl j hjl
        rw [hv]
        have e : (⟨g, 0, none⟩ : Addr).add j = ⟨g, j, none⟩ := by
          unfold Addr.add; split
          · subst_vars; rfl
          · simp
        rw [e]; exact hc)
      have hr := Lib.run_append_grow_zeros w 22 3 ty 5 i (.int .u8 0) .i64 .i64 Try.underlying22 Try.underlying3 hi hz0 (some ⟨g, 0, none⟩) ys.length cap (ys.map (Value.int .u8)) (by rw [hz1]; exact hold) k hk (by omega) (by omega) (by omega) (by rw [hz2]; omega) (by rw [hz2]; exact growslice_fits (by omega) (by omega))
      rw [zeroCells_u8, zeroCells_u8] at hr
      have hge := grownCap_ge w (ys.length + k) cap 5
      refine ⟨_, _, _, hr, ⟨by simp, .inr ⟨w.heap.size, _, _, by rw [hlen], hbase, heap_alloc_new w.drew _, by rw [hlen]; exact hge, grownCap_le_maxLen w _ cap 5 (by unfold maxLen; omega), ?_, ?_⟩⟩, ⟨rfl, rfl, rfl, by simp, fun j hj _ => Below.heap_alloc w.drew _ j hj⟩⟩
      · simp; omega
      · simp only [Array.toList_append, List.append_assoc]
        rw [← List.append_assoc, zeros_cells]
        have e2 : (ys ++ List.replicate k 0 : List Int).length * 1 = ((ys ++ List.replicate k 0 : List Int).map (Value.int .u8)).length := by simp
        rw [e2]
        exact List.take_left
theorem wp_append_zeros {ops : Array Oper} {rest : List Oper} {o : Oper} {a : Act} {Q : Exit → Act → World → Prop} (w : World) (hgd : o.guard = none) (s x : Operand)
    (ho : o.op = .call { callee := .builtin .append, args := #[s, x], argTypes := #[22, 3] }) (base g cap : Nat) (ys : List Int) (n : Nat) (hs : a.eval s = .slice (some ⟨g, 0, none⟩) n cap) (hn : n = ys.length) (hown : Owns w base g cap ys)
    (K : Int) (hx : a.eval x = .int .i64 K) (k : Nat) (hk : K = k) (hl : ys.length + k ≤ 140737488355328) (hbase : base ≤ w.heap.size)
    (h : ∀ g' cp w', Owns w' base g' cp (ys ++ List.replicate k 0) → w.grownBy w' (some g) → wpList Try.prog ops Q rest (a.put o.dst (.slice (some ⟨g', 0, none⟩) (n + k) cp)) w') : wpList Try.prog ops Q (o :: rest) a w := by
  subst hn hk
  obtain ⟨g', cp, w', hr, h1, h2⟩ := run_zeros_own o.type w base g cap ys k hown hl hbase
  exact Lib.wpList_append_run w hgd s x _ _ ho _ _ hs hx _ _ hr (h g' cp w' h1 h2)
end Go.Proofs.Ytfkcmchpddpmgaa
