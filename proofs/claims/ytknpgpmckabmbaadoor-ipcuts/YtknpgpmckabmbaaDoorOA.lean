/- Bytes appended at a step of a region that draws its order: to a row of the call's own, and to nothing. -/
import Derived.Test.YtknpgpmckabmbaaDoorOB
import Derived.Maps.AppendAt
import Derived.Deep.AppendLies
namespace Go.Proofs.YtknpgpmckabmbaaDoor
open Go.RowKit

theorem bts_news {w : World} {ad : Addr} {zs : List Int} (hB : Bts w (some ad) zs) : ∀ j u, (zs.map (Value.int .u8))[j]? = some u → w.cell? (ad.add j) = some u := by
  intro j u hj
  have hjl : j < zs.length := by
    have := (List.getElem?_eq_some_iff.1 hj).1; simpa using this
  rcases hB with e | ⟨b, off, e, hc⟩
  · subst e; simp at hjl
  · cases e
    have hu : u = .int .u8 (zs.getD j 0) := by
      simp [hjl] at hj
      simp [hjl, hj]
    rw [hu, ← hc j hjl]
    unfold Addr.add
    split
    · subst_vars; rfl
    · rfl
/-- What an append leaves, whatever row of the call's own it is (one of none too). -/
theorem run_append_row (ty : TypeId) (w : World) (base : Nat) (v : Value) (ys : List Int) (hown : w.ownsRow base 5 1 v ys.length (ys.map (Value.int .u8)))
    (ax : Option Addr) (c : Nat) (zs : List Int) (hB : Bts w ax zs) (hnil : ax = none → c = 0) (hl : ys.length + zs.length ≤ 140737488355328) (hbase : base ≤ w.heap.size) :
    ∃ v' w', (Builtin.append_ #[22, 22] ty #[v, .slice ax zs.length c]).run Tryd.prog w = .ok v' w' ∧ w'.ownsRow base 5 1 v' (ys ++ zs).length ((ys ++ zs).map (Value.int .u8)) ∧ w.grownBy w' v.ownBlock ∧ (v' = .slice none 0 0 → v = .slice none 0 0) := by
  obtain ⟨i, hi, hz0, hz1, hz2⟩ := info_parts info_u8
  cases ax with
  | none =>
    have hzs : zs = [] := by
      rcases hB with e | ⟨_, _, e, _⟩
      · exact e
      · cases e
    subst hzs
    have hc0 := hnil rfl
    subst hc0
    exact ⟨v, w, run_append_owned_none (P := Tryd.prog) (w := w) base 22 ty 5 i 1 Tryd.underlying22 hi v ys.length _ hown, by simpa using hown, ⟨rfl, rfl, rfl, Nat.le_refl _, fun _ _ _ => rfl⟩, id⟩
  | some ad =>
    obtain ⟨v', w', hr, h2, h3, h4, _⟩ := run_append_own_at (P := Tryd.prog) w base 22 ty 5 i (.int .u8 0) 1 1 Tryd.underlying22 hi hz0 hz1 hz2 rfl (by decide) v ys.length _ hown ad zs.length c (zs.map (Value.int .u8)) (by simp) (bts_news hB)
      (fun u hu => by simp at hu; obtain ⟨z, _, rfl⟩ := hu; rfl) (by unfold maxLen; omega) (by omega) hbase
    exact ⟨v', w', hr, by simpa using h2, h3, fun h => (h4.1 h).1⟩
theorem run_append_bytes (ty : TypeId) (w : World) (base g cap n m : Nat) (ys : List Int) (hn : n = ys.length) (hown : Owns w base g cap ys)
    (ax : Option Addr) (c : Nat) (zs : List Int) (hm : m = zs.length) (hB : Bts w ax zs) (hnil : ax = none → c = 0) (hl : ys.length + zs.length ≤ 140737488355328) (hbase : base ≤ w.heap.size) :
    ∃ g' cp w', (Builtin.append_ #[22, 22] ty #[.slice (some ⟨g, 0, none⟩) n cap, .slice ax m c]).run Tryd.prog w = .ok (.slice (some ⟨g', 0, none⟩) (n + m) cp) w' ∧ Owns w' base g' cp (ys ++ zs) ∧ w.grownBy w' (some g) := by
  subst hn hm
  obtain ⟨v', w', hr, h2, h3, h4⟩ := run_append_row ty w base _ ys hown ax c zs hB hnil hl hbase
  rcases h2.2 with ⟨e, _⟩ | ⟨g', cap', cur, e, _⟩
  · exact absurd (h4 e) (by simp)
  · subst e
    exact ⟨g', cap', w', by simpa using hr, h2, h3⟩
/-- Appended to nothing: a copy of its own, or nothing where there is none. -/
theorem run_append_nil (ty : TypeId) (w : World) (ax : Option Addr) (m c : Nat) (zs : List Int) (hm : m = zs.length) (hB : Bts w ax zs) (hnil : ax = none → c = 0) (hl : zs.length ≤ 140737488355328) :
    ∃ a' cp w', (Builtin.append_ #[22, 22] ty #[.slice none 0 0, .slice ax m c]).run Tryd.prog w = .ok (.slice a' m cp) w' ∧ Bts w' a' zs ∧ (a' = none → cp = 0) ∧ m ≤ cp ∧ Below w.heap.size w w' ∧ (∀ ad, a' = some ad → w.heap.size ≤ ad.block) := by
  subst hm
  obtain ⟨v', w', hr, h2, h3, h4⟩ := run_append_row ty w w.heap.size (.slice none 0 0) [] ⟨rfl, .inl ⟨rfl, rfl⟩⟩ ax c zs hB hnil (by simpa using hl) (Nat.le_refl _)
  have hb : Below w.heap.size w w' := (Below.refl _ _).grown h3 (Nat.le_refl _) (fun j hj => by cases hj)
  rw [List.nil_append] at h2
  rcases h2.2 with ⟨e, e0⟩ | ⟨g', cap', cur, e, hbg, hh, hnc, _⟩
  · subst e
    obtain rfl : zs = [] := List.eq_nil_of_length_eq_zero e0
    exact ⟨none, 0, w', hr, .inl rfl, fun _ => rfl, Nat.le_refl _, hb, fun _ h => by cases h⟩
  · subst e
    exact ⟨some ⟨g', 0, none⟩, cap', w', hr, Owns.bts (base := w.heap.size) (cap := cap') h2, (fun h => by cases h), hnc, hb, fun _ h => by cases h; exact hbg⟩

theorem step_append_bytes {ops : Array Oper} {o : Oper} {a : Act} {K : Act → World → Prop} {Q : Exit → Act → World → Prop} {E : Prop} (w : World) (hgd : o.guard = none) (s x : Operand)
    (ho : o.op = .call { callee := .builtin .append, args := #[s, x], argTypes := #[22, 22] }) (base g cap : Nat) (ys : List Int) (n : Nat) (hs : a.eval s = .slice (some ⟨g, 0, none⟩) n cap) (hn : n = ys.length) (hown : Owns w base g cap ys)
    (ax : Option Addr) (m c : Nat) (hx : a.eval x = .slice ax m c) (zs : List Int) (hm : m = zs.length) (hB : Bts w ax zs) (hnil : ax = none → c = 0) (hl : ys.length + zs.length ≤ 140737488355328) (hbase : base ≤ w.heap.size)
    (h : ∀ g' cp w', Owns w' base g' cp (ys ++ zs) → w.grownBy w' (some g) → K (a.put o.dst (.slice (some ⟨g', 0, none⟩) (n + m) cp)) w') :
    if Region.wanted o (yielded ops a.tmps) = true then Oper.wp Tryd.prog o a w K Q else E := by
  have hw : Region.wanted o (yielded ops a.tmps) = true := by simp [Region.wanted, hgd]
  rw [if_pos hw]
  obtain ⟨g', cp, w', hr, h1, h2⟩ := run_append_bytes o.type w base g cap n m ys hn hown ax c zs hm hB hnil hl hbase
  unfold Oper.wp execOp
  simp only [ho, resolve, invoke, builtin, Sem.run_bind, Sem.run_pure, Result.andThen_ok, List.map_toArray, List.map_cons, List.map_nil, hs, hx, hr]
  exact h g' cp w' h1 h2
theorem step_append_nil {ops : Array Oper} {o : Oper} {a : Act} {K : Act → World → Prop} {Q : Exit → Act → World → Prop} {E : Prop} (w : World) (hgd : o.guard = none) (s x : Operand)
    (ho : o.op = .call { callee := .builtin .append, args := #[s, x], argTypes := #[22, 22] }) (hs : a.eval s = .slice none 0 0)
    (ax : Option Addr) (m c : Nat) (hx : a.eval x = .slice ax m c) (zs : List Int) (hm : m = zs.length) (hB : Bts w ax zs) (hnil : ax = none → c = 0) (hl : zs.length ≤ 140737488355328)
    (h : ∀ a' cp w', Bts w' a' zs → (a' = none → cp = 0) → m ≤ cp → Below w.heap.size w w' → (∀ ad, a' = some ad → w.heap.size ≤ ad.block) → K (a.put o.dst (.slice a' m cp)) w') :
    if Region.wanted o (yielded ops a.tmps) = true then Oper.wp Tryd.prog o a w K Q else E := by
  have hw : Region.wanted o (yielded ops a.tmps) = true := by simp [Region.wanted, hgd]
  rw [if_pos hw]
  obtain ⟨a', cp, w', hr, h1, h2, h3, h4, h5⟩ := run_append_nil o.type w ax m c zs hm hB hnil hl
  unfold Oper.wp execOp
  simp only [ho, resolve, invoke, builtin, Sem.run_bind, Sem.run_pure, Result.andThen_ok, List.map_toArray, List.map_cons, List.map_nil, hs, hx, hr]
  exact h a' cp w' h1 h2 h3 h4 h5
end Go.Proofs.YtknpgpmckabmbaaDoor
