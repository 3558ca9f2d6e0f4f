/- Bytes appended to a row of the call's own: what else there is stays. -/
import Derived.Test.YtibbhfmpgpkdaaaOC
import Derived.Test.YtibbhfmpgpkdaaaBE
namespace Go.Proofs.Ytibbhfmpgpkdaaa
open Go.RowKit

/-- All but the row at block g stays; the row is there still, or in a new block. -/
structure Grew (w w' : World) (g g' : Nat) : Prop where
  size : w.heap.size ≤ w'.heap.size
  block : ∀ k, k < w.heap.size → k ≠ g → w'.heap[k]? = w.heap[k]?
  place : g' = g ∨ w.heap.size ≤ g'
theorem Grew.refl (w : World) (g : Nat) : Grew w w g g := ⟨Nat.le_refl _, fun _ _ _ => rfl, .inl rfl⟩
theorem Grew.trans {w w1 w2 : World} {g g1 g2 : Nat} (h : Grew w w1 g g1) (k : Grew w1 w2 g1 g2) : Grew w w2 g g2 := by
  have h1 := h.size; have h2 := k.size
  refine ⟨by omega, fun j hj hne => ?_, ?_⟩
  · rw [k.block j (by omega) (by rcases h.place with e | e <;> omega), h.block j hj hne]
  · rcases k.place with e | e
    · rw [e]; exact h.place
    · exact .inr (by omega)
theorem Grew.new {w : World} (g : Nat) (o : Obj) : Grew w (w.alloc o) g g := ⟨by simp, fun _ hk _ => heap_alloc_old w o hk, .inl rfl⟩
theorem Grew.cell {w w' : World} {g g' b i : Nat} (h : Grew w w' g g') (hb : b < w.heap.size) (hne : b ≠ g) : w'.cell? ⟨b, i, none⟩ = w.cell? ⟨b, i, none⟩ := World.cell?_of_block (h.block b hb hne)
theorem Grew.of {w w' : World} {g g' : Nat} (hg : w.grownBy w' (some g)) (hp : g' = g ∨ w.heap.size ≤ g') : Grew w w' g g' := ⟨hg.size, fun k hk hne => hg.block k hk (by simp [hne]), hp⟩

theorem append_place (w : World) (ty : TypeId) (base g cap : Nat) (ys : List Int) (hown : Owns w base g cap ys) (ad : Addr) (c : Nat) (zs : List Int) (hB : Bts w (some ad) zs) (hl : ys.length + zs.length ≤ 140737488355328) (hbase : base ≤ w.heap.size) :
    ∃ g' cp w', (Builtin.append_ #[62, 62] ty #[.slice (some ⟨g, 0, none⟩) ys.length cap, .slice (some ad) zs.length c]).run Try.prog w = .ok (.slice (some ⟨g', 0, none⟩) (ys.length + zs.length) cp) w' ∧ Owns w' base g' cp (ys ++ zs) ∧ w.grownBy w' (some g) ∧ (g' = g ∨ w.heap.size ≤ g') := by
  obtain ⟨i, hi, hz0, hz1, hz2⟩ := info_parts info_u8
  have hnews : ∀ j u, (zs.map (Value.int .u8))[j]? = some u → w.cell? (ad.add j) = some u := by
    intro j u hj
    have hjl : j < zs.length := by
      have := (List.getElem?_eq_some_iff.1 hj).1; simpa using this
    rcases hB with e | ⟨b, off, e, hc⟩
    · subst e; simp at hjl
    · cases e
      have hu : u = .int .u8 (zs.getD j 0) := by
        simp [hjl] at hj
        simp [hjl, hj]
      rw [hu, ← hc j hjl, addr_add]
  have h1 : ∀ u ∈ zs.map (Value.int .u8), u.oneCell' = true := by
    intro u hu
    simp at hu
    obtain ⟨z, _, rfl⟩ := hu
    rfl
  obtain ⟨v', w', hr, ho, hg, hn⟩ := run_append_own (P := Try.prog) w base 62 ty 5 i (.int .u8 0) 1 1 Try.underlying62 hi hz0 hz1 hz2 rfl (by decide) _ ys.length _ hown ad zs.length c (zs.map (Value.int .u8)) (by simp) hnews h1 (by unfold maxLen; omega) (by omega) hbase
  have ho2 : w'.ownsRow base 5 1 v' (ys ++ zs).length ((ys ++ zs).map (Value.int .u8)) := by simpa using ho
  rcases hown.2 with ⟨h', _⟩ | ⟨g0, cap0, cur, h', hbg, hgg, hnc, hcm, hcs, htake⟩
  · cases h'
  · simp only [Value.slice.injEq, Option.some.injEq, Addr.mk.injEq] at h'
    obtain ⟨⟨rfl, _, _⟩, _, rfl⟩ := h'
    by_cases hroom : ys.length + zs.length ≤ cap
    · have hr2 := run_append_room (P := Try.prog) w 62 ty 5 i Try.underlying62 hi g ys.length cap cur hgg ad zs.length c (zs.map (Value.int .u8)) (by rw [hz1]; simp) hnews h1 hroom (by rw [hz1, hcs]; simp; omega)
      rw [hr2] at hr
      simp only [Result.ok.injEq] at hr
      obtain ⟨rfl, rfl⟩ := hr
      exact ⟨g, cap, _, hr2, by unfold Owns; simpa using ho2, hg, .inl rfl⟩
    · have holds : ∀ j u, (ys.map (Value.int .u8))[j]? = some u → w.cell? ((⟨g, 0, none⟩ : Addr).add j) = some u := World.ownsRow.cells hown (g := g) rfl
      have hr2 := run_append_grow (P := Try.prog) w 62 ty 5 i (.int .u8 0) Try.underlying62 hi hz0 ⟨g, 0, none⟩ ys.length cap (ys.map (Value.int .u8)) (by rw [hz1]; simp) holds ad zs.length c (zs.map (Value.int .u8)) (by rw [hz1]; simp) hnews (by omega) (by omega) (growslice_fits (by omega) (by rw [hz2]; omega))
      rw [hr2] at hr
      simp only [Result.ok.injEq] at hr
      obtain ⟨rfl, rfl⟩ := hr
      exact ⟨w.heap.size, _, _, hr2, by unfold Owns; simpa using ho2, hg, .inr (Nat.le_refl _)⟩
/-- What an append to an own row of bytes leaves, and where. -/
theorem wp_append_at {ops : Array Oper} {rest : List Oper} {o : Oper} {a : Act} {Q : Exit → Act → World → Prop} (w : World) (hgd : o.guard = none) (s x : Operand)
    (ho : o.op = .call { callee := .builtin .append, args := #[s, x], argTypes := #[62, 62] }) (base g cap : Nat) (ys : List Int) (n : Nat) (hs : a.eval s = .slice (some ⟨g, 0, none⟩) n cap) (hn : n = ys.length) (hown : Owns w base g cap ys)
    (ad : Addr) (m c : Nat) (hx : a.eval x = .slice (some ad) m c) (zs : List Int) (hm : m = zs.length) (hB : Bts w (some ad) zs) (hl : ys.length + zs.length ≤ 140737488355328) (hbase : base ≤ w.heap.size)
    (h : ∀ g' cp w', Owns w' base g' cp (ys ++ zs) → w.grownBy w' (some g) → (g' = g ∨ w.heap.size ≤ g') → wpList Try.prog ops Q rest (a.put o.dst (.slice (some ⟨g', 0, none⟩) (n + m) cp)) w') : wpList Try.prog ops Q (o :: rest) a w := by
  subst hn hm
  obtain ⟨g', cp, w', hr, h2, h3, h4⟩ := append_place w o.type base g cap ys hown ad c zs hB hl hbase
  refine wpList_plain hgd fun _ hK => ?_
  unfold Oper.wp execOp
  simp only [ho, resolve, invoke, builtin, Sem.run_bind, Sem.run_pure, Result.andThen_ok, List.map_toArray, List.map_cons, List.map_nil, hs, hx, hr]
  exact hK _ _ (h g' cp w' h2 h3 h4)
end Go.Proofs.Ytibbhfmpgpkdaaa
