/- Appending to a slice that is nil: bytes, and rows of structs. -/
import Derived.Test.YtibbhfmpgpkdaaaS5W2
namespace Go.Proofs.Ytibbhfmpgpkdaaa
open Go.RowKit

theorem grown_none {w w' : World} (h : w.grownBy w' none) : Below w.heap.size w w' := (Below.refl _ _).grown h (Nat.le_refl _) (fun k hk => by cases hk)
theorem owns_lies {w : World} {base e size g n cap : Nat} {vs : List Value} (h : w.ownsRow base e size (.slice (some ⟨g, 0, none⟩) n cap) n vs) : Lies w (some ⟨g, 0, none⟩) vs :=
  .inr ⟨g, 0, rfl, fun i hi => by
    have := World.ownsRow.cells h (g := g) rfl i vs[i] (List.getElem?_eq_getElem hi)
    rw [addr_add] at this
    rw [this, List.getElem?_eq_getElem hi]⟩
theorem Lies.at {w : World} {ad : Addr} {vs : List Value} (h : Lies w (some ad) vs) : ∀ j u, vs[j]? = some u → w.cell? (ad.add j) = some u := by
  intro j u hj
  have hjl : j < vs.length := (List.getElem?_eq_some_iff.1 hj).1
  rcases h with h | ⟨b, off, e, hc⟩
  · subst h; simp at hjl
  · cases e; rw [addr_add, hc j hjl, hj]
/-- Nothing of it lies below. -/
def Far (N : Nat) (a : Option Addr) : Prop := ∀ x, a = some x → N ≤ x.block
theorem Far.mono {M N : Nat} {a : Option Addr} (h : Far N a) (hM : M ≤ N) : Far M a := fun x hx => Nat.le_trans hM (h x hx)
theorem Lies.set {w : World} {a : Option Addr} {vs : List Value} {N : Nat} {p : Addr} (h : Lies w a vs) (hf : Far N a) (hp : p.block < N) (v : Value) : Lies (w.setCell p v) a vs := by
  rcases h with h | ⟨b, off, rfl, hc⟩
  · exact .inl h
  · refine .inr ⟨b, off, rfl, fun i hi => ?_⟩
    rw [← hc i hi]
    exact World.cell?_setCell_other _ _ _ _ (by
      intro e
      have := hf _ rfl
      subst e
      exact absurd hp (by simpa using this))
/-- 'append([]T(nil), x...)'. -/
theorem wp_append_lies {ops : Array Oper} {rest : List Oper} {o : Oper} {a : Act} {Q : Exit → Act → World → Prop} (w : World) (hgd : o.guard = none) (s x : Operand) (t : TypeId)
    (ho : o.op = .call { callee := .builtin .append, args := #[s, x], argTypes := #[t, t] }) (e : TypeId) (i : TypeInfo) (z : Value) (size bytes : Nat) (ht : Try.prog.underlying t = some (.slice e)) (hi : Try.prog.info? e = some i) (hz : i.zero = some z)
    (hsize : i.size = size) (hby : i.bytes = bytes) (hzs : z.cells.size = size) (hsz : 0 < size)
    (hs : a.eval s = .slice none 0 0) (ax : Option Addr) (m c : Nat) (hx : a.eval x = .slice ax m c) (vs : List Value) (hl : vs.length = m * size) (hL : Lies w ax vs) (h1 : ∀ u ∈ vs, u.oneCell' = true) (hnil : ax = none → c = 0) (h63 : m ≤ maxLen) (hb : m * bytes ≤ 140737488355328)
    (h : ∀ a' cp w', Lies w' a' vs → Below w.heap.size w w' → (a' = none → cp = 0) → Far w.heap.size a' → wpList Try.prog ops Q rest (a.put o.dst (.slice a' m cp)) w') : wpList Try.prog ops Q (o :: rest) a w := by
  have hown : w.ownsRow w.heap.size e size (.slice none 0 0) 0 [] := ⟨by simp, .inl ⟨rfl, rfl⟩⟩
  cases ax with
  | none =>
    have hvs : vs = [] := by
      rcases hL with e' | ⟨_, _, e', _⟩
      · exact e'
      · cases e'
    subst hvs
    have hm : m = 0 := by rcases Nat.mul_eq_zero.1 (show m * size = 0 by rw [← hl]; rfl) with h | h <;> omega
    have hc0 := hnil rfl
    subst hc0 hm
    refine wpList_append_own_none hgd s x t ho w.heap.size e i size ht hi _ 0 _ hs hown hx ?_
    exact h none 0 w (.inl rfl) (Below.refl _ _) (fun _ => rfl) (fun _ hx => by cases hx)
  | some ad =>
    refine wpList_append_own w hgd s x t ho w.heap.size e i z size bytes ht hi hz hsize hby hzs hsz _ 0 [] hs hown ad m c vs hx hl hL.at h1 (by omega) (by rw [Nat.zero_add]; exact hb) (Nat.le_refl _) ?_
    intro v' w' hown' hgrow hnil'
    rw [Nat.zero_add, List.nil_append] at hown'
    have hB := grown_none hgrow
    rcases hown'.2 with ⟨h', h0⟩ | ⟨g', cap', cur, h', hfar, _, _, _⟩
    · subst h' h0
      have hvs : vs = [] := List.eq_nil_of_length_eq_zero (by rw [hl]; simp)
      subst hvs
      exact h none 0 w' (.inl rfl) hB (fun _ => rfl) (fun _ hx => by cases hx)
    · subst h'
      exact h _ cap' w' (owns_lies hown') hB (fun h => by cases h) (fun x hx => by cases hx; exact hfar)
theorem info_link : (Try.prog.info? 96).map (fun i => (i.zero, i.size, i.bytes)) = some (some (.agg #[.int .i64 0, .int .i64 0, .int .i64 0, .int .i64 0]), 4, 32) := by kernel_rfl
theorem info_vert : (Try.prog.info? 70).map (fun i => (i.zero, i.size, i.bytes)) = some (some (.agg #[.int .i64 0, .int .i64 0]), 2, 16) := by kernel_rfl
theorem info_int : (Try.prog.info? 3).map (fun i => (i.zero, i.size, i.bytes)) = some (some (.int .i64 0), 1, 8) := by kernel_rfl

/-- A first append of bytes to nil. -/
theorem wp_append_first {ops : Array Oper} {rest : List Oper} {o : Oper} {a : Act} {Q : Exit → Act → World → Prop} (w : World) (hgd : o.guard = none) (s x : Operand)
    (ho : o.op = .call { callee := .builtin .append, args := #[s, x], argTypes := #[62, 62] }) (hs : a.eval s = .slice none 0 0)
    (base : Nat) (hbase : base ≤ w.heap.size) (ad : Addr) (m c : Nat) (hx : a.eval x = .slice (some ad) m c) (zs : List Int) (hm : m = zs.length) (hB : Bts w (some ad) zs) (hpos : 0 < m) (hl : zs.length ≤ 140737488355328)
    (h : ∀ g' cp w', Owns w' base g' cp zs → Below w.heap.size w w' → wpList Try.prog ops Q rest (a.put o.dst (.slice (some ⟨g', 0, none⟩) m cp)) w') : wpList Try.prog ops Q (o :: rest) a w := by
  subst hm
  obtain ⟨i, hi, hz0, hz1, hz2⟩ := info_parts info_u8
  have hown : w.ownsRow base 5 1 (.slice none 0 0) 0 [] := ⟨by simp, .inl ⟨rfl, rfl⟩⟩
  refine wpList_append_own w hgd s x 62 ho base 5 i (.int .u8 0) 1 1 Try.underlying62 hi hz0 hz1 hz2 rfl (by decide) _ 0 [] hs hown ad zs.length c (zs.map (Value.int .u8)) hx (by simp) ?_ ?_ (by unfold maxLen; omega) (by omega) hbase ?_
  · intro j u hj
    have hjl : j < zs.length := by
      have := (List.getElem?_eq_some_iff.1 hj).1; simpa using this
    rcases hB with e | ⟨b, off, e, hc⟩
    · subst e; simp at hjl
    · cases e
      have hu : u = .int .u8 (zs.getD j 0) := by
        simp [hjl] at hj
        simp [hjl, hj]
      rw [hu, ← hc j hjl, addr_add]
  · intro u hu
    simp at hu
    obtain ⟨z, _, rfl⟩ := hu
    rfl
  · intro v' w' hown' hgrow hnil'
    rw [Nat.zero_add, List.nil_append] at hown'
    rcases hown'.2 with ⟨h', h0⟩ | ⟨g', cap', cur, h', _⟩
    · omega
    · subst h'
      exact h g' cap' w' hown' (grown_none hgrow)
end Go.Proofs.Ytibbhfmpgpkdaaa
