/- Lists of candidates of a call's own. -/
import Derived.Test.YtioimebfenklkaaE10R
import Derived.Test.YtioimebfenklkaaE10T
import Derived.Test.YtioimebfenklkaaE10A
import Derived.Test.YtioimebfenklkaaCFr
namespace Go.Proofs.Ytioimebfenklkaa
open Go.RowKit
set_option linter.unusedVariables false

theorem info_cand : (Try.prog.info? 23).map (fun i => (i.zero, i.size, i.bytes)) = some (some (.agg #[.int .i64 0, .int .i64 0, .int .i64 0, .int .i64 0, .int .i64 0]), 5, 40) := by kernel_rfl
/-- A list of candidates, from base on, of the call's own. -/
def OwnC (w : World) (base : Nat) (v : Value) (L : List CandZ) : Prop := w.ownsRow base 23 5 v L.length (cellsOf candC L)
theorem cands_len (L : List CandZ) : (cellsOf candC L).length = L.length * 5 := cellsOf_length candC 5 candC_length L
theorem cands_app (L M : List CandZ) : cellsOf candC (L ++ M) = cellsOf candC L ++ cellsOf candC M := by unfold cellsOf; rw [List.flatMap_append]
theorem OwnC.below {w w' : World} {base : Nat} {v : Value} {L : List CandZ} (h : OwnC w base v L) (hb : Below w.heap.size w w') : OwnC w' base v L := row_below h hb
theorem ownC_nil (w : World) (base : Nat) : OwnC w base (.slice none 0 0) [] := World.ownsRow_nil w base _ _
theorem OwnC.more {w : World} {base : Nat} {v : Value} {L : List CandZ} (h : OwnC w base v L) : ∃ a c, v = .slice a L.length c ∧ Lies w a (cellsOf candC L) ∧ (a = none → c = 0) ∧ L.length ≤ c ∧ ∀ x, a = some x → ∃ g, x = ⟨g, 0, none⟩ ∧ base ≤ g ∧ g < w.heap.size := by
  rcases h.2 with ⟨h1, h2⟩ | ⟨g, cap, cur, h1, h2, h3, h4, _⟩
  · have hL : L = [] := List.eq_nil_of_length_eq_zero h2
    subst hL
    exact ⟨none, 0, h1, .inl rfl, fun _ => rfl, by simp, fun x hx => by cases hx⟩
  · subst h1
    refine ⟨_, _, rfl, owns_lies h, fun h => (by cases h), h4, fun x hx => ?_⟩
    cases hx
    exact ⟨g, rfl, h2, (Array.getElem?_eq_some_iff.1 h3).1⟩
theorem OwnC.cells {w : World} {base g c n : Nat} {L : List CandZ} (h : OwnC w base (.slice (some ⟨g, 0, none⟩) n c) L) (i : Nat) (hi : i < L.length) :
    w.cell? ⟨g, i * 5, none⟩ = some (.int .i64 L[i].id) ∧ w.cell? ⟨g, i * 5 + 1, none⟩ = some (.int .i64 L[i].addr) ∧ w.cell? ⟨g, i * 5 + 2, none⟩ = some (.int .i64 L[i].prio) ∧ w.cell? ⟨g, i * 5 + 3, none⟩ = some (.int .i64 L[i].dr) ∧ w.cell? ⟨g, i * 5 + 4, none⟩ = some (.int .i64 L[i].bdr) := by
  obtain ⟨a, cc, e, hl, _⟩ := OwnC.more h
  cases e
  obtain ⟨b, off, e, c0, c1, c2, c3, c4⟩ := Cands.cells hl i hi
  cases e
  simp only [Nat.zero_add] at c0 c1 c2 c3 c4
  exact ⟨c0, c1, c2, c3, c4⟩
/-- append(l, c). -/
theorem wp_append_cand {ops : Array Oper} {rest : List Oper} {o : Oper} {a : Act} {Q : Exit → Act → World → Prop} (W : World) (N : Nat) (hN : N = W.heap.size) (hgd : o.guard = none) (s x : Operand)
    (ho : o.op = .call { callee := .builtin .append, args := #[s, x], argTypes := #[24, 24] }) (base : Nat) (v : Value) (L : List CandZ) (hs : a.eval s = v) (hown : OwnC W base v L) (c : CandZ)
    (hx : a.eval x = .slice (some ⟨N, 0, none⟩) 1 1) (hl : L.length + 1 ≤ 1000000) (hbase : base ≤ W.heap.size)
    (h : ∀ v' w', OwnC w' base v' (L ++ [c]) → Below base W w' → wpList Try.prog ops Q rest (a.put o.dst v') w') : wpList Try.prog ops Q (o :: rest) a (W.alloc (.cells (candA c) 23)) := by
  subst hN
  obtain ⟨i, hi, hz0, hz1, hz2⟩ := info_parts info_cand
  have hB : Below W.heap.size W (W.alloc (.cells (candA c) 23)) := below_new' _ _
  refine wp_append_thing (W.alloc (.cells (candA c) 23)) hgd s x 24 ho 23 i _ 5 40 Try.underlying24 hi hz0 hz1 hz2 rfl (by decide) base v L.length _ hs (row_below hown hB) _ 1 (candC c) hx rfl (lies_new W (candC c) _) (fun u hu => by simp [candC] at hu; rcases hu with rfl | rfl | rfl | rfl | rfl <;> rfl) (by unfold maxLen; omega) (by omega) (by simp; omega) ?_
  intro v' w' h1 h2
  refine h v' w' ?_ ((hB.mono hbase).trans h2)
  unfold OwnC
  rw [cands_app, List.length_append]
  have e : cellsOf candC [c] = candC c := by unfold cellsOf; simp
  rw [e]
  exact h1
/-- append([]api.Cand{}, l...). -/
theorem wp_copy_cands {ops : Array Oper} {rest : List Oper} {o : Oper} {a : Act} {Q : Exit → Act → World → Prop} (W : World) (N : Nat) (hN : N = W.heap.size) (hgd : o.guard = none) (s x : Operand)
    (ho : o.op = .call { callee := .builtin .append, args := #[s, x], argTypes := #[24, 24] }) (hs : a.eval s = .slice (some ⟨N, 0, none⟩) 0 0)
    (ax : Option Addr) (m c : Nat) (L : List CandZ) (hx : a.eval x = .slice ax m c) (hm : m = L.length) (hL : Lies W ax (cellsOf candC L)) (hnil : ax = none → c = 0) (hl : L.length ≤ 1000000)
    (h : ∀ v' w', OwnC w' W.heap.size v' L → Below W.heap.size W w' → wpList Try.prog ops Q rest (a.put o.dst v') w') : wpList Try.prog ops Q (o :: rest) a (W.alloc (.cells #[] 23)) := by
  subst hN hm
  obtain ⟨i, hi, hz0, hz1, hz2⟩ := info_parts info_cand
  have hb0 : Below W.heap.size W (W.alloc (.cells #[] 23)) := (Below.refl _ _).alloc (Nat.le_refl _) _
  have hown : (W.alloc (.cells #[] 23)).ownsRow W.heap.size 23 5 (.slice (some ⟨W.heap.size, 0, none⟩) 0 0) 0 [] := World.ownsRow_lit W #[] 0 (Nat.le_refl _) (by decide) rfl
  cases ax with
  | none =>
    have hL0 : L = [] := by
      rcases hL with e | ⟨_, _, e, _⟩
      · have := cands_len L; rw [e] at this; simp at this; exact List.eq_nil_of_length_eq_zero (by omega)
      · cases e
    subst hL0
    have hc0 := hnil rfl
    subst hc0
    refine wpList_append_own_none hgd s x 24 ho W.heap.size 23 i 5 Try.underlying24 hi _ 0 _ hs hown hx ?_
    exact h _ _ hown hb0
  | some ad =>
    refine wpList_append_own (W.alloc (.cells #[] 23)) hgd s x 24 ho W.heap.size 23 i _ 5 40 Try.underlying24 hi hz0 hz1 hz2 rfl (by decide) _ 0 [] hs hown ad L.length c (cellsOf candC L) hx (cands_len L) (hL.below hb0).at (by
      intro u hu
      unfold cellsOf at hu
      obtain ⟨z, _, hz⟩ := List.mem_flatMap.1 hu
      simp [candC] at hz; rcases hz with rfl | rfl | rfl | rfl | rfl <;> rfl) (by unfold maxLen; omega) (by omega) (by simp) ?_
    intro v' w' h1 h2 _
    refine h v' w' ?_ (hb0.grown h2 (by simp) (fun k hk => by cases hk; exact Nat.le_refl _))
    unfold OwnC
    simpa using h1
end Go.Proofs.Ytioimebfenklkaa
