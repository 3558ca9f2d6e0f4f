/- Rows that lie somewhere, and rows of a call's own; of no program but its numbers. -/
import Derived.Test.YtgljblnegiadlaaVR
import Derived.Below
namespace Go.Proofs.Ytgljblnegiadlaa
open Go.RowKit

theorem below_new' (w : World) (o : Obj) : Below w.heap.size w (w.alloc o) := (Below.refl _ _).alloc (Nat.le_refl _) _
theorem size_new (w : World) (o : Obj) : (w.alloc o).heap.size = w.heap.size + 1 := by simp
/-- The cells vs lie at that address (at whatever one, where there are none). -/
def Lies (w : World) (a : Option Addr) (vs : List Value) : Prop :=
  vs = [] ∨ ∃ b off, a = some ⟨b, off, none⟩ ∧ ∀ i, i < vs.length → w.cell? ⟨b, off + i, none⟩ = vs[i]?
theorem Lies.below {w w' : World} {a : Option Addr} {vs : List Value} (h : Lies w a vs) (hb : Below w.heap.size w w') : Lies w' a vs := by
  rcases h with h | ⟨b, off, rfl, hc⟩
  · exact .inl h
  · refine .inr ⟨b, off, rfl, fun i hi => ?_⟩
    have := hc i hi
    rw [hb.cell (by
      show b < _
      rcases Nat.lt_or_ge b w.heap.size with h | h
      · exact h
      · simp [World.cell?, Array.getElem?_eq_none h] at this
        exact absurd this (by simp [hi]))]
    exact this
theorem Lies.belowN {w w' : World} {N : Nat} {a : Option Addr} {vs : List Value} (h : Lies w a vs) (hb : Below N w w') (hN : w.heap.size ≤ N) : Lies w' a vs := h.below (hb.mono hN)
def intC (k : Int) : List Value := [.int .i64 k]
def cellsOf {α : Type} (f : α → List Value) (l : List α) : List Value := l.flatMap f
theorem cellsOf_length {α : Type} (f : α → List Value) (m : Nat) (hf : ∀ x, (f x).length = m) (l : List α) : (cellsOf f l).length = l.length * m := by
  induction l with
  | nil => simp [cellsOf]
  | cons x l ih => simp only [cellsOf, List.flatMap_cons, List.length_append, List.length_cons] at *; rw [ih, hf, Nat.add_mul]; omega
theorem cellsOf_at {α : Type} (f : α → List Value) (m : Nat) (hf : ∀ x, (f x).length = m) (l : List α) (i j : Nat) (hi : i < l.length) (hj : j < m) : (cellsOf f l)[i * m + j]? = (f l[i])[j]? := by
  induction l generalizing i with
  | nil => simp at hi
  | cons x l ih =>
    simp only [cellsOf, List.flatMap_cons]
    rcases i with _ | i
    · rw [Nat.zero_mul, Nat.zero_add, List.getElem?_append_left (by rw [hf]; exact hj)]; rfl
    · rw [List.getElem?_append_right (by rw [hf, Nat.add_mul]; omega), hf, show (i + 1) * m + j - m = i * m + j by rw [Nat.add_mul]; omega]
      exact ih i (by simpa using hi)
/-- A list of things of m cells each. -/
theorem Lies.cell {α : Type} {w : World} {a : Option Addr} (f : α → List Value) (m : Nat) (hf : ∀ x, (f x).length = m) {l : List α} (h : Lies w a (cellsOf f l)) (hl : l ≠ []) (hm : 0 < m) :
    ∃ b off, a = some ⟨b, off, none⟩ ∧ ∀ (i j : Nat) (hi : i < l.length), j < m → w.cell? ⟨b, off + (i * m + j), none⟩ = (f l[i])[j]? := by
  rcases h with h | ⟨b, off, rfl, hc⟩
  · exfalso
    have := cellsOf_length f m hf l
    rw [h] at this
    rcases l with _ | ⟨x, l⟩
    · exact hl rfl
    · simp [Nat.add_mul] at this; omega
  · refine ⟨b, off, rfl, fun i j hi hj => ?_⟩
    rw [hc _ (by rw [cellsOf_length f m hf]; exact Nat.lt_of_lt_of_le (Nat.add_lt_add_left hj _) (by rw [← Nat.succ_mul]; exact Nat.mul_le_mul_right _ hi)), cellsOf_at f m hf l i j hi hj]
theorem Ints.cells {w : World} {a : Option Addr} {l : List Int} (h : Lies w a (cellsOf intC l)) (i : Nat) (hi : i < l.length) :
    ∃ b off, a = some ⟨b, off, none⟩ ∧ w.cell? ⟨b, off + i, none⟩ = some (.int .i64 l[i]) := by
  obtain ⟨b, off, rfl, hc⟩ := h.cell intC 1 (fun _ => rfl) (by rintro rfl; simp at hi) (by omega)
  have := hc i 0 hi (by omega)
  rw [Nat.mul_one, Nat.add_zero] at this
  exact ⟨b, off, rfl, this⟩
theorem grown_none {w w' : World} (h : w.grownBy w' none) : Below w.heap.size w w' := (Below.refl _ _).grown h (Nat.le_refl _) (fun k hk => by cases hk)
theorem owns_lies {w : World} {base e size g n cap : Nat} {vs : List Value} (h : w.ownsRow base e size (.slice (some ⟨g, 0, none⟩) n cap) n vs) : Lies w (some ⟨g, 0, none⟩) vs :=
  .inr ⟨g, 0, rfl, fun i hi => by
    have := World.ownsRow.cells h (g := g) rfl i vs[i] (List.getElem?_eq_getElem hi)
    rw [addr_add] at this
    rw [this, List.getElem?_eq_getElem hi]⟩
theorem Lies.at {w : World} {ad : Addr} {vs : List Value} (h : Lies w (some ad) vs) : ∀ j u, vs[j]? = some u → w.cell? (ad.add j) = some u := by
  intro j u hj
  have hjl : j < vs.length := (List.getElem?_eq_some_iff.1 hj).1
  rcases h with h | ⟨b, off, e, hc⟩
  · subst h; simp at hjl
  · cases e; rw [addr_add, hc j hjl, hj]
/-- Nothing of it lies below. -/
def Far (N : Nat) (a : Option Addr) : Prop := ∀ x, a = some x → N ≤ x.block
theorem Far.mono {M N : Nat} {a : Option Addr} (h : Far N a) (hM : M ≤ N) : Far M a := fun x hx => Nat.le_trans hM (h x hx)
theorem Lies.set {w : World} {a : Option Addr} {vs : List Value} {N : Nat} {p : Addr} (h : Lies w a vs) (hf : Far N a) (hp : p.block < N) (v : Value) : Lies (w.setCell p v) a vs := by
  rcases h with h | ⟨b, off, rfl, hc⟩
  · exact .inl h
  · refine .inr ⟨b, off, rfl, fun i hi => ?_⟩
    rw [← hc i hi]
    exact World.cell?_setCell_other _ _ _ _ (by
      intro e
      have := hf _ rfl
      subst e
      exact absurd hp (by simpa using this))
/-- 'append([]T(nil), x...)'. -/
theorem wp_append_lies {ops : Array Oper} {rest : List Oper} {o : Oper} {a : Act} {Q : Exit → Act → World → Prop} (w : World) (hgd : o.guard = none) (s x : Operand) (t : TypeId)
    (ho : o.op = .call { callee := .builtin .append, args := #[s, x], argTypes := #[t, t] }) (e : TypeId) (i : TypeInfo) (z : Value) (size bytes : Nat) (ht : Try.prog.underlying t = some (.slice e)) (hi : Try.prog.info? e = some i) (hz : i.zero = some z)
    (hsize : i.size = size) (hby : i.bytes = bytes) (hzs : z.cells.size = size) (hsz : 0 < size)
    (hs : a.eval s = .slice none 0 0) (ax : Option Addr) (m c : Nat) (hx : a.eval x = .slice ax m c) (vs : List Value) (hl : vs.length = m * size) (hL : Lies w ax vs) (h1 : ∀ u ∈ vs, u.oneCell' = true) (hnil : ax = none → c = 0) (h63 : m ≤ maxLen) (hb : m * bytes ≤ 140737488355328)
    (h : ∀ a' cp w', Lies w' a' vs → Below w.heap.size w w' → (a' = none → cp = 0) → Far w.heap.size a' → wpList Try.prog ops Q rest (a.put o.dst (.slice a' m cp)) w') : wpList Try.prog ops Q (o :: rest) a w := by
  have hown : w.ownsRow w.heap.size e size (.slice none 0 0) 0 [] := ⟨by simp, .inl ⟨rfl, rfl⟩⟩
  cases ax with
  | none =>
    have hvs : vs = [] := by
      rcases hL with e' | ⟨_, _, e', _⟩
      · exact e'
      · cases e'
    subst hvs
    have hm : m = 0 := by rcases Nat.mul_eq_zero.1 (show m * size = 0 by rw [← hl]; rfl) with h | h <;> omega
    have hc0 := hnil rfl
    subst hc0 hm
    refine wpList_append_own_none hgd s x t ho w.heap.size e i size ht hi _ 0 _ hs hown hx ?_
    exact h none 0 w (.inl rfl) (Below.refl _ _) (fun _ => rfl) (fun _ hx => by cases hx)
  | some ad =>
    refine wpList_append_own w hgd s x t ho w.heap.size e i z size bytes ht hi hz hsize hby hzs hsz _ 0 [] hs hown ad m c vs hx hl hL.at h1 (by omega) (by rw [Nat.zero_add]; exact hb) (Nat.le_refl _) ?_
    intro v' w' hown' hgrow hnil'
    rw [Nat.zero_add, List.nil_append] at hown'
    have hB := grown_none hgrow
    rcases hown'.2 with ⟨h', h0⟩ | ⟨g', cap', cur, h', hfar, _, _, _⟩
    · subst h' h0
      have hvs : vs = [] := List.eq_nil_of_length_eq_zero (by rw [hl]; simp)
      subst hvs
      exact h none 0 w' (.inl rfl) hB (fun _ => rfl) (fun _ hx => by cases hx)
    · subst h'
      exact h _ cap' w' (owns_lies hown') hB (fun h => by cases h) (fun x hx => by cases hx; exact hfar)
theorem info_int : (Try.prog.info? 3).map (fun i => (i.zero, i.size, i.bytes)) = some (some (.int .i64 0), 1, 8) := by kernel_rfl
/-- What an append of one thing to a list of the call's own leaves. -/
theorem wp_append_thing {ops : Array Oper} {rest : List Oper} {o : Oper} {a : Act} {Q : Exit → Act → World → Prop} (w : World) (hgd : o.guard = none) (s x : Operand) (t : TypeId)
    (ho : o.op = .call { callee := .builtin .append, args := #[s, x], argTypes := #[t, t] }) (e : TypeId) (i : TypeInfo) (z : Value) (size bytes : Nat) (ht : Try.prog.underlying t = some (.slice e)) (hi : Try.prog.info? e = some i) (hz : i.zero = some z)
    (hsize : i.size = size) (hby : i.bytes = bytes) (hzs : z.cells.size = size) (hsz : 0 < size) (base : Nat) (v : Value) (n : Nat) (xs : List Value) (hs : a.eval s = v) (hown : w.ownsRow base e size v n xs)
    (ad : Addr) (c : Nat) (news : List Value) (hx : a.eval x = .slice (some ad) 1 c) (hl : news.length = size) (hL : Lies w (some ad) news) (h1 : ∀ u ∈ news, u.oneCell' = true) (h63 : n + 1 ≤ maxLen) (hb : (n + 1) * bytes ≤ 140737488355328) (hbase : base ≤ w.heap.size)
    (h : ∀ v' w', w'.ownsRow base e size v' (n + 1) (xs ++ news) → Below base w w' → wpList Try.prog ops Q rest (a.put o.dst v') w') : wpList Try.prog ops Q (o :: rest) a w := by
  refine wpList_append_own w hgd s x t ho base e i z size bytes ht hi hz hsize hby hzs hsz v n xs hs hown ad 1 c news hx (by rw [hl, Nat.one_mul]) hL.at h1 h63 hb hbase ?_
  intro v' w' ho' hg _
  exact h v' w' ho' ((Below.refl _ _).grown hg hbase (fun k hk => (World.ownsRow.lt hown k hk).1))
theorem row_below {w w' : World} {base e size n : Nat} {v : Value} {xs : List Value} (h : w.ownsRow base e size v n xs) (hb : Below w.heap.size w w') : w'.ownsRow base e size v n xs := by
  rcases h.2 with ⟨h', h0⟩ | ⟨g', cap', cur, h', hbg, hg, r⟩
  · exact ⟨h.1, .inl ⟨h', h0⟩⟩
  · have hlt := World.ownsRow.lt h g' (by rw [h']; rfl)
    exact ⟨h.1, .inr ⟨g', cap', cur, h', hbg, by rw [hb.block _ hlt.2]; exact hg, r⟩⟩
theorem lies_new (w : World) (vs : List Value) (t : TypeId) : Lies (w.alloc (.cells vs.toArray t)) (some ⟨w.heap.size, 0, none⟩) vs :=
  .inr ⟨_, _, rfl, fun i hi => by have h := (var_new w vs t).cell i (List.getElem?_eq_getElem hi); rw [Nat.zero_add]; rw [h]; simp [hi]⟩
theorem cells_none {α : Type} (f : α → List Value) {l : List α} (h : l.length = 0) : cellsOf f l = [] := by rw [List.eq_nil_of_length_eq_zero h]; rfl
theorem cells_more {α : Type} (f : α → List Value) (l : List α) (k : Nat) (hk : k < l.length) : cellsOf f (l.take (k + 1)) = cellsOf f (l.take k) ++ f l[k] := by
  unfold cellsOf; rw [← List.take_append_getElem hk, List.flatMap_append]; simp
end Go.Proofs.Ytgljblnegiadlaa
