/- Bytes appended at a step of a region that draws its order, with where the new row lies. -/
import Derived.Test.YtknpgpmckabmbaaDoorOA
namespace Go.Proofs.YtknpgpmckabmbaaDoor
open Go.RowKit

/-- With where the new row lies: where the old one lay, or at the end. -/
theorem run_append_at (ty : TypeId) (w : World) (base g cap n m : Nat) (ys : List Int) (hn : n = ys.length) (hown : Owns w base g cap ys)
    (ax : Option Addr) (c : Nat) (zs : List Int) (hm : m = zs.length) (hB : Bts w ax zs) (hnil : ax = none → c = 0) (hl : ys.length + zs.length ≤ 140737488355328) (hbase : base ≤ w.heap.size) :
    ∃ g' cp w', (Builtin.append_ #[22, 22] ty #[.slice (some ⟨g, 0, none⟩) n cap, .slice ax m c]).run Tryd.prog w = .ok (.slice (some ⟨g', 0, none⟩) (n + m) cp) w' ∧ Owns w' base g' cp (ys ++ zs) ∧ w.grownBy w' (some g) ∧ (g' = g ∨ g' = w.heap.size) := by
  obtain ⟨i, hi, hz0, hz1, hz2⟩ := info_parts info_u8
  subst hn hm
  cases ax with
  | none =>
    have hzs : zs = [] := by
      rcases hB with e | ⟨_, _, e, _⟩
      · exact e
      · cases e
    subst hzs
    have hc0 := hnil rfl
    subst hc0
    exact ⟨g, cap, w, run_append_owned_none (P := Tryd.prog) (w := w) base 22 ty 5 i 1 Tryd.underlying22 hi _ ys.length _ hown, by simpa using hown, ⟨rfl, rfl, rfl, Nat.le_refl _, fun _ _ _ => rfl⟩, .inl rfl⟩
  | some ad =>
    obtain ⟨v', w', hr, h2, h3, h4, h5⟩ := run_append_own_at (P := Tryd.prog) w base 22 ty 5 i (.int .u8 0) 1 1 Tryd.underlying22 hi hz0 hz1 hz2 rfl (by decide) _ ys.length _ hown ad zs.length c (zs.map (Value.int .u8)) (by simp) (bts_news hB)
      (fun u hu => by simp at hu; obtain ⟨z, _, rfl⟩ := hu; rfl) (by unfold maxLen; omega) (by omega) hbase
    have h2' : w'.ownsRow base 5 1 v' (ys ++ zs).length ((ys ++ zs).map (Value.int .u8)) := by simpa using h2
    rcases h2'.2 with ⟨e, _⟩ | ⟨g', cap', cur, e, _⟩
    · exact absurd (h4.1 e).1 (by simp)
    · subst e
      refine ⟨g', cap', w', by simpa using hr, h2', h3, ?_⟩
      rcases h5 with h5 | h5
      · exact .inl (by simpa [Value.ownBlock] using h5)
      · exact .inr (by simpa [Value.ownBlock] using h5)
theorem step_append_at {ops : Array Oper} {o : Oper} {a : Act} {K : Act → World → Prop} {Q : Exit → Act → World → Prop} {E : Prop} (w : World) (hgd : o.guard = none) (s x : Operand)
    (ho : o.op = .call { callee := .builtin .append, args := #[s, x], argTypes := #[22, 22] }) (base g cap : Nat) (ys : List Int) (n : Nat) (hs : a.eval s = .slice (some ⟨g, 0, none⟩) n cap) (hn : n = ys.length) (hown : Owns w base g cap ys)
    (ax : Option Addr) (m c : Nat) (hx : a.eval x = .slice ax m c) (zs : List Int) (hm : m = zs.length) (hB : Bts w ax zs) (hnil : ax = none → c = 0) (hl : ys.length + zs.length ≤ 140737488355328) (hbase : base ≤ w.heap.size)
    (h : ∀ g' cp w', Owns w' base g' cp (ys ++ zs) → w.grownBy w' (some g) → (g' = g ∨ g' = w.heap.size) → K (a.put o.dst (.slice (some ⟨g', 0, none⟩) (n + m) cp)) w') :
    if Region.wanted o (yielded ops a.tmps) = true then Oper.wp Tryd.prog o a w K Q else E := by
  have hw : Region.wanted o (yielded ops a.tmps) = true := by simp [Region.wanted, hgd]
  rw [if_pos hw]
  obtain ⟨g', cp, w', hr, h1, h2, h3⟩ := run_append_at o.type w base g cap n m ys hn hown ax c zs hm hB hnil hl hbase
  unfold Oper.wp execOp
  simp only [ho, resolve, invoke, builtin, Sem.run_bind, Sem.run_pure, Result.andThen_ok, List.map_toArray, List.map_cons, List.map_nil, hs, hx, hr]
  exact h g' cp w' h1 h2 h3
end Go.Proofs.YtknpgpmckabmbaaDoor
