/- Rows of bytes that a call itself made: appended to, stored into, read; no walk in it. -/
import Derived.Test.YtgljblnegiadlaaBT
import Derived.Laws.AppendOwnNone
namespace Go.Proofs.Ytgljblnegiadlaa
open Go.RowKit

theorem addr_add (b off j : Nat) : (⟨b, off, none⟩ : Addr).add j = ⟨b, off + j, none⟩ := by
  unfold Addr.add; split
  · subst_vars; rfl
  · rfl
theorem info_u8 : (Try.prog.info? 5).map (fun i => (i.zero, i.size, i.bytes)) = some (some (.int .u8 0), 1, 1) := by kernel_rfl

/-- The row at the head of block g, from base on, is the call's own and holds the bytes zs. -/
def Owns (w : World) (base g cap : Nat) (zs : List Int) : Prop := w.ownsRow base 5 1 (.slice (some ⟨g, 0, none⟩) zs.length cap) zs.length (zs.map (Value.int .u8))
theorem Owns.cell {w : World} {base g cap : Nat} {zs : List Int} (h : Owns w base g cap zs) (i : Nat) (hi : i < zs.length) : w.cell? ⟨g, i, none⟩ = some (.int .u8 (zs.getD i 0)) := by
  have := World.ownsRow.cellAt h i (by omega)
  rw [this]; simp [hi]
theorem Owns.bts {w : World} {base g cap : Nat} {zs : List Int} (h : Owns w base g cap zs) : Bts w (some ⟨g, 0, none⟩) zs :=
  .inr ⟨g, 0, rfl, fun i hi => by rw [Nat.zero_add]; exact h.cell i hi⟩
theorem Owns.frozen {w : World} {base g cap : Nat} {zs : List Int} (h : Owns w base g cap zs) (i : Nat) : w.frozen? ⟨g, i, none⟩ = false := World.ownsRow.frozenAt h i
theorem Owns.lt {w : World} {base g cap : Nat} {zs : List Int} (h : Owns w base g cap zs) : base ≤ g ∧ g < w.heap.size := World.ownsRow.lt h g rfl
theorem Owns.cap {w : World} {base g cap : Nat} {zs : List Int} (h : Owns w base g cap zs) : zs.length ≤ cap := by
  rcases h.2 with ⟨h', _⟩ | ⟨g', cap', cur, h', _, _, hnc, _⟩
  · cases h'
  · simp only [Value.slice.injEq] at h'; omega
theorem Owns.stored {w : World} {base g cap : Nat} {zs : List Int} (h : Owns w base g cap zs) (i : Nat) (v : Int) : Owns (w.setCell ⟨g, i, none⟩ (.int .u8 v)) base g cap (zs.set i v) := by
  have := (World.ownsRow.stored h i (.int .u8 v)).1
  unfold Owns
  rw [List.length_set, List.map_set]
  exact this
theorem Owns.below {w w' : World} {base g cap : Nat} {zs : List Int} (h : Owns w base g cap zs) (hb : Below w.heap.size w w') : Owns w' base g cap zs := by
  have hlt := h.lt
  rcases h.2 with ⟨h', _⟩ | ⟨g', cap', cur, h', hbg, hg, r⟩
  · cases h'
  · have e : g' = g := by simp only [Value.slice.injEq, Option.some.injEq, Addr.mk.injEq] at h'; omega
    subst e
    exact ⟨h.1, .inr ⟨g', cap', cur, h', hbg, by rw [hb.block _ hlt.2]; exact hg, r⟩⟩
theorem Owns.drew {w : World} {base g cap : Nat} {zs : List Int} (h : Owns w base g cap zs) : Owns w.drew base g cap zs := h.below (Below.refl _ _).drew

theorem Bts.belowN {w w' : World} {N : Nat} {a : Option Addr} {zs : List Int} (h : Bts w a zs) (hb : Below N w w') (hN : w.heap.size ≤ N) : Bts w' a zs := h.below (hb.mono hN)
theorem Owns.belowN {w w' : World} {N base g cap : Nat} {zs : List Int} (h : Owns w base g cap zs) (hb : Below N w w') (hN : w.heap.size ≤ N) : Owns w' base g cap zs := h.below (hb.mono hN)
theorem below_more {a b c : World} {N M : Nat} (h : Below M a b) (k : Below N b c) (hN : M ≤ N) : Below M a c := h.trans (k.mono hN)
theorem bts_one (W : World) (a : Int) : Bts (W.alloc (.cells #[.int .u8 a] 5)) (some ⟨W.heap.size, 0, none⟩) [a] :=
  .inr ⟨_, 0, rfl, fun i hi => by
    have : i = 0 := by simpa using hi
    subst this; simp⟩
theorem bts_two (W : World) (a b : Int) : Bts (W.alloc (.cells #[.int .u8 a, .int .u8 b] 5)) (some ⟨W.heap.size, 0, none⟩) [a, b] :=
  .inr ⟨_, 0, rfl, fun i hi => by
    have : i = 0 ∨ i = 1 := by simp at hi; omega
    rcases this with rfl | rfl <;> simp⟩
theorem Owns.alloc {w : World} {base g cap : Nat} {zs : List Int} (h : Owns w base g cap zs) (o : Obj) : Owns (w.alloc o) base g cap zs := h.below ((Below.refl _ _).alloc (Nat.le_refl _) _)
theorem Owns.grown {w w' : World} {base g g' cap : Nat} {zs : List Int} (h : Owns w base g cap zs) (hg : w.grownBy w' (some g')) (hne : g ≠ g') : Owns w' base g cap zs :=
  World.ownsRow.kept h hg (.inr (by simp [Value.ownBlock, hne]))
theorem maps_len (l : List Int) : (l.map (Value.int .u8)).length = l.length := by simp

/-- What an append to an own row of bytes leaves. -/
theorem wp_append_bytes {ops : Array Oper} {rest : List Oper} {o : Oper} {a : Act} {Q : Exit → Act → World → Prop} (w : World) (hgd : o.guard = none) (s x : Operand)
    (ho : o.op = .call { callee := .builtin .append, args := #[s, x], argTypes := #[40, 40] }) (base g cap : Nat) (ys : List Int) (n : Nat) (hs : a.eval s = .slice (some ⟨g, 0, none⟩) n cap) (hn : n = ys.length) (hown : Owns w base g cap ys)
    (ax : Option Addr) (m c : Nat) (hx : a.eval x = .slice ax m c) (zs : List Int) (hm : m = zs.length) (hB : Bts w ax zs) (hnil : ax = none → c = 0) (hl : ys.length + zs.length ≤ 140737488355328) (hbase : base ≤ w.heap.size)
    (h : ∀ g' cp w', Owns w' base g' cp (ys ++ zs) → w.grownBy w' (some g) → wpList Try.prog ops Q rest (a.put o.dst (.slice (some ⟨g', 0, none⟩) (n + m) cp)) w') : wpList Try.prog ops Q (o :: rest) a w := by
  subst hn hm
  obtain ⟨i, hi, hz0, hz1, hz2⟩ := info_parts info_u8
  cases ax with
  | none =>
    have hzs : zs = [] := by
      rcases hB with e | ⟨_, _, e, _⟩
      · exact e
      · cases e
    subst hzs
    have hc0 := hnil rfl
    subst hc0
    refine wpList_append_own_none hgd s x 40 ho base 5 i 1 Try.underlying40 hi _ ys.length _ hs hown hx ?_
    have := h g cap w (by simpa using hown) ⟨rfl, rfl, rfl, Nat.le_refl _, fun _ _ _ => rfl⟩
    simpa using this
  | some ad =>
    refine wpList_append_own w hgd s x 40 ho base 5 i (.int .u8 0) 1 1 Try.underlying40 hi hz0 hz1 hz2 rfl (by decide) _ ys.length _ hs hown ad zs.length c (zs.map (Value.int .u8)) hx (by simp) ?_ ?_ (by unfold maxLen; omega) (by omega) hbase ?_
    · intro j u hj
      have hjl : j < zs.length := by
        have := (List.getElem?_eq_some_iff.1 hj).1; simpa using this
      rcases hB with e | ⟨b, off, e, hc⟩
      · subst e; simp at hjl
      · cases e
        have hu : u = .int .u8 (zs.getD j 0) := by
          simp [hjl] at hj
          simp [hjl, hj]
        rw [hu, ← hc j hjl, addr_add]
    · intro u hu
      simp at hu
      obtain ⟨z, _, rfl⟩ := hu
      rfl
    · intro v' w' hown' hgrow hnil'
      have hown2 : w'.ownsRow base 5 1 v' (ys ++ zs).length ((ys ++ zs).map (Value.int .u8)) := by simpa using hown'
      rcases hown2.2 with ⟨h', _⟩ | ⟨g', cap', cur, h', _⟩
      · exact absurd (hnil'.1 h').1 (by simp)
      · subst h'
        have := h g' cap' w' hown2 hgrow
        simpa using this
/-- A copy of bytes: an empty row of the call's own, just made, appended to. -/
theorem wp_copy_bytes {ops : Array Oper} {rest : List Oper} {o : Oper} {a : Act} {Q : Exit → Act → World → Prop} (W : World) (N : Nat) (hN : N = W.heap.size) (hgd : o.guard = none) (s x : Operand)
    (ho : o.op = .call { callee := .builtin .append, args := #[s, x], argTypes := #[40, 40] }) (hs : a.eval s = .slice (some ⟨N, 0, none⟩) 0 0)
    (ax : Option Addr) (m c : Nat) (hx : a.eval x = .slice ax m c) (zs : List Int) (hm : m = zs.length) (hB : Bts W ax zs) (hnil : ax = none → c = 0) (hl : zs.length ≤ 140737488355328)
    (h : ∀ g cp w', Owns w' W.heap.size g cp zs → Below W.heap.size W w' → wpList Try.prog ops Q rest (a.put o.dst (.slice (some ⟨g, 0, none⟩) m cp)) w') : wpList Try.prog ops Q (o :: rest) a (W.alloc (.cells #[] 5)) := by
  subst hN
  have hb0 : Below W.heap.size W (W.alloc (.cells #[] 5)) := (Below.refl _ _).alloc (Nat.le_refl _) _
  refine wp_append_bytes (W.alloc (.cells #[] 5)) hgd s x ho W.heap.size W.heap.size 0 [] 0 hs rfl (World.ownsRow_lit W #[] 0 (Nat.le_refl _) (by decide) rfl) ax m c hx zs hm (hB.below hb0) hnil (by simpa using hl) (by simp) ?_
  intro g' cp w' h1 h2
  have := h g' cp w' h1 (hb0.grown h2 (by simp) (fun k hk => by cases hk; exact Nat.le_refl _))
  rw [Nat.zero_add]; exact this
end Go.Proofs.Ytgljblnegiadlaa
