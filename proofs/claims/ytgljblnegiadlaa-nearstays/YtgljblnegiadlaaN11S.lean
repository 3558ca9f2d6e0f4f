/- Neighbors exchanged. -/
import Derived.Test.YtgljblnegiadlaaN11P
namespace Go.Proofs.Ytgljblnegiadlaa
open Go.RowKit Go.Sort Go.Lib Go.Shelf
set_option linter.unusedVariables false
set_option linter.unusedSectionVars false
variable [Inhabited NearZ]

theorem at_mid (A B : List NearZ) (x : NearZ) : (A ++ x :: B).toArray[A.length]! = x := by simp
theorem swp_mid (A M S : List NearZ) (x y : NearZ) : swp (A ++ [x] ++ M ++ [y] ++ S).toArray A.length (A.length + 1 + M.length) = (A ++ [y] ++ M ++ [x] ++ S).toArray := by
  have h1 : (A ++ [x] ++ M ++ [y] ++ S).toArray[A.length]! = x := by
    simp [List.append_assoc]
  have h2 : (A ++ [x] ++ M ++ [y] ++ S).toArray[A.length + 1 + M.length]! = y := by
    have := at_mid (A ++ [x] ++ M) S y
    rw [List.length_append, List.length_append, List.length_singleton] at this
    simpa [List.append_assoc] using this
  unfold swp
  rw [h1, h2, List.setIfInBounds_toArray, List.setIfInBounds_toArray]
  congr 1
  have e1 : (A ++ [x] ++ M ++ [y] ++ S).set A.length y = A ++ [y] ++ M ++ [y] ++ S := by
    rw [List.append_assoc, List.append_assoc, List.append_assoc, List.set_append_right _ _ (Nat.le_refl _), Nat.sub_self]
    simp [List.append_assoc]
  rw [e1, show A ++ [y] ++ M ++ [y] ++ S = (A ++ [y] ++ M) ++ ([y] ++ S) by simp [List.append_assoc], List.set_append_right _ _ (by simp; omega), show A.length + 1 + M.length - (A ++ [y] ++ M).length = 0 by simp; omega]
  simp [List.append_assoc]
theorem swp_next (A S : List NearZ) (x y : NearZ) : swp (A ++ [x] ++ [y] ++ S).toArray A.length (A.length + 1) = (A ++ [y] ++ [x] ++ S).toArray := by
  have := swp_mid A [] S x y
  simpa using this
theorem swp_back (A S : List NearZ) (x y : NearZ) : swp (A ++ [x] ++ [y] ++ S).toArray (A.length + 1) A.length = (A ++ [y] ++ [x] ++ S).toArray := by
  have h1 : (A ++ [x] ++ [y] ++ S).toArray[A.length]! = x := by simp [List.append_assoc]
  have h2 : (A ++ [x] ++ [y] ++ S).toArray[A.length + 1]! = y := by
    simp [List.append_assoc]
  unfold swp
  rw [h1, h2, List.setIfInBounds_toArray, List.setIfInBounds_toArray]
  congr 1
  have e1 : (A ++ [x] ++ [y] ++ S).set (A.length + 1) x = A ++ [x] ++ [x] ++ S := by
    rw [show A ++ [x] ++ [y] ++ S = (A ++ [x]) ++ ([y] ++ S) by simp [List.append_assoc], List.set_append_right _ _ (by simp), show A.length + 1 - (A ++ [x]).length = 0 by simp]
    simp [List.append_assoc]
  rw [e1, List.append_assoc, List.append_assoc, List.set_append_right _ _ (Nat.le_refl _), Nat.sub_self]
  simp [List.append_assoc]
/-- The row's word on the world. -/
def Nw (w0 : World) (g : Nat) (L : List NearZ) (W : World) : Prop := SWK nearC 7 w0 g 0 L.toArray W
def sw7 (W : World) (g o : Nat) (v : NearZ) : World := (((((((W.setCell ⟨g, o, none⟩ (.int .i64 v.id)).setCell ⟨g, o + 1, none⟩ (.int .i64 v.addr)).setCell ⟨g, o + 2, none⟩ (.int .i64 v.prio)).setCell ⟨g, o + 3, none⟩ (.int .i64 v.dr)).setCell ⟨g, o + 4, none⟩ (.int .i64 v.bdr)).setCell ⟨g, o + 5, none⟩ (.bool v.two)).setCell ⟨g, o + 6, none⟩ (.int .i64 v.left))
theorem sw7_eq (W : World) (g o : Nat) (v : NearZ) : sw7 W g o v = W.setCells g o (nearC v) := rfl
theorem sw7_out (W : World) (g o p : Nat) (y : NearZ) (h : p < o ∨ o + 7 ≤ p) : (sw7 W g o y).cell? ⟨g, p, none⟩ = W.cell? ⟨g, p, none⟩ := by
  rw [sw7_eq]
  exact World.cell?_setCells_out g _ _ _ _ (fun _ _ => by show p < o ∨ o + 7 ≤ p; exact h)
theorem sw7_frozen (W : World) (g o : Nat) (y : NearZ) (a : Addr) : (sw7 W g o y).frozen? a = W.frozen? a := by
  rw [sw7_eq, World.frozen?_setCells]
theorem setCell_dr (W : World) (a : Addr) (v : Value) : W.drew.setCell a v = (W.setCell a v).drew := rfl
theorem sw7_dr (W : World) (g o : Nat) (x : NearZ) : sw7 W.drew g o x = (sw7 W g o x).drew := by unfold sw7; simp only [setCell_dr]
theorem sw7_drew (W : World) (g o p : Nat) (x y : NearZ) : sw7 (sw7 W.drew g o x) g p y = (sw7 (sw7 W g o x) g p y).drew := by rw [sw7_dr, sw7_dr]
theorem Nw.cells {w0 W : World} {g : Nat} {L : List NearZ} {d0 : Array NearZ} (h : Nw w0 g L W) (R : RowK nearC 7 w0 g 0 d0) (hl : L.length = d0.size) (p : Nat) (hp : p < d0.size) (x : NearZ) (hx : L.toArray[p]! = x) :
    (W.cell? ⟨g, p * 7, none⟩ = some (.int .i64 x.id) ∧ W.cell? ⟨g, p * 7 + 1, none⟩ = some (.int .i64 x.addr) ∧ W.cell? ⟨g, p * 7 + 2, none⟩ = some (.int .i64 x.prio) ∧ W.cell? ⟨g, p * 7 + 3, none⟩ = some (.int .i64 x.dr) ∧ W.cell? ⟨g, p * 7 + 4, none⟩ = some (.int .i64 x.bdr) ∧ W.cell? ⟨g, p * 7 + 5, none⟩ = some (.bool x.two) ∧ W.cell? ⟨g, p * 7 + 6, none⟩ = some (.int .i64 x.left)) ∧
    (W.frozen? ⟨g, p * 7, none⟩ = false ∧ W.frozen? ⟨g, p * 7 + 1, none⟩ = false ∧ W.frozen? ⟨g, p * 7 + 2, none⟩ = false ∧ W.frozen? ⟨g, p * 7 + 3, none⟩ = false ∧ W.frozen? ⟨g, p * 7 + 4, none⟩ = false ∧ W.frozen? ⟨g, p * 7 + 5, none⟩ = false ∧ W.frozen? ⟨g, p * 7 + 6, none⟩ = false) := by
  have hH := SWK.holds h R.hblk R.hH (by simpa using hl)
  have hc : ∀ c, c < 7 → W.cell? ⟨g, p * 7 + c, none⟩ = some (nearC x)[c]! ∧ W.frozen? ⟨g, p * 7 + c, none⟩ = false := fun c hc => by
    have := HoldsK.cell hH (i := p) (c := c) (by simpa [hl] using hp) hc
    rw [hx, Nat.zero_add] at this
    exact this
  exact ⟨⟨(hc 0 (by omega)).1, (hc 1 (by omega)).1, (hc 2 (by omega)).1, (hc 3 (by omega)).1, (hc 4 (by omega)).1, (hc 5 (by omega)).1, (hc 6 (by omega)).1⟩, ⟨(hc 0 (by omega)).2, (hc 1 (by omega)).2, (hc 2 (by omega)).2, (hc 3 (by omega)).2, (hc 4 (by omega)).2, (hc 5 (by omega)).2, (hc 6 (by omega)).2⟩⟩
theorem Nw.drew {w0 W : World} {g : Nat} {L : List NearZ} (h : Nw w0 g L W) : Nw w0 g L W.drew := SWK.drew h
/-- What an exchange of two wants, and what it leaves. -/
theorem swap_step {w0 W : World} {g : Nat} {L L' : List NearZ} {d0 : Array NearZ} (h : Nw w0 g L W) (R : RowK nearC 7 w0 g 0 d0) (hl : L.length = d0.size) (p q : Nat) (hp : p < d0.size) (hq : q < d0.size) (hpq : p ≠ q) (x y : NearZ) (hx : L.toArray[p]! = x) (hy : L.toArray[q]! = y) (hs : swp L.toArray p q = L'.toArray) :
    ∃ oA oB w2, p * 7 = oA ∧ q * 7 = oB ∧ (W.cell? ⟨g, oA, none⟩ = some (.int .i64 x.id) ∧ W.cell? ⟨g, oA + 1, none⟩ = some (.int .i64 x.addr) ∧ W.cell? ⟨g, oA + 2, none⟩ = some (.int .i64 x.prio) ∧ W.cell? ⟨g, oA + 3, none⟩ = some (.int .i64 x.dr) ∧ W.cell? ⟨g, oA + 4, none⟩ = some (.int .i64 x.bdr) ∧ W.cell? ⟨g, oA + 5, none⟩ = some (.bool x.two) ∧ W.cell? ⟨g, oA + 6, none⟩ = some (.int .i64 x.left)) ∧ (W.frozen? ⟨g, oA, none⟩ = false ∧ W.frozen? ⟨g, oA + 1, none⟩ = false ∧ W.frozen? ⟨g, oA + 2, none⟩ = false ∧ W.frozen? ⟨g, oA + 3, none⟩ = false ∧ W.frozen? ⟨g, oA + 4, none⟩ = false ∧ W.frozen? ⟨g, oA + 5, none⟩ = false ∧ W.frozen? ⟨g, oA + 6, none⟩ = false) ∧ (W.cell? ⟨g, oB, none⟩ = some (.int .i64 y.id) ∧ W.cell? ⟨g, oB + 1, none⟩ = some (.int .i64 y.addr) ∧ W.cell? ⟨g, oB + 2, none⟩ = some (.int .i64 y.prio) ∧ W.cell? ⟨g, oB + 3, none⟩ = some (.int .i64 y.dr) ∧ W.cell? ⟨g, oB + 4, none⟩ = some (.int .i64 y.bdr) ∧ W.cell? ⟨g, oB + 5, none⟩ = some (.bool y.two) ∧ W.cell? ⟨g, oB + 6, none⟩ = some (.int .i64 y.left)) ∧ (W.frozen? ⟨g, oB, none⟩ = false ∧ W.frozen? ⟨g, oB + 1, none⟩ = false ∧ W.frozen? ⟨g, oB + 2, none⟩ = false ∧ W.frozen? ⟨g, oB + 3, none⟩ = false ∧ W.frozen? ⟨g, oB + 4, none⟩ = false ∧ W.frozen? ⟨g, oB + 5, none⟩ = false ∧ W.frozen? ⟨g, oB + 6, none⟩ = false) ∧ ((((((((W.setCell ⟨g, oA, none⟩ (.int .i64 y.id)).setCell ⟨g, oA + 1, none⟩ (.int .i64 y.addr)).setCell ⟨g, oA + 2, none⟩ (.int .i64 y.prio)).setCell ⟨g, oA + 3, none⟩ (.int .i64 y.dr)).setCell ⟨g, oA + 4, none⟩ (.int .i64 y.bdr)).setCell ⟨g, oA + 5, none⟩ (.bool y.two)).setCell ⟨g, oA + 6, none⟩ (.int .i64 y.left)).cell? ⟨g, oB, none⟩ = some (.int .i64 y.id) ∧ (((((((W.setCell ⟨g, oA, none⟩ (.int .i64 y.id)).setCell ⟨g, oA + 1, none⟩ (.int .i64 y.addr)).setCell ⟨g, oA + 2, none⟩ (.int .i64 y.prio)).setCell ⟨g, oA + 3, none⟩ (.int .i64 y.dr)).setCell ⟨g, oA + 4, none⟩ (.int .i64 y.bdr)).setCell ⟨g, oA + 5, none⟩ (.bool y.two)).setCell ⟨g, oA + 6, none⟩ (.int .i64 y.left)).cell? ⟨g, oB + 1, none⟩ = some (.int .i64 y.addr) ∧ (((((((W.setCell ⟨g, oA, none⟩ (.int .i64 y.id)).setCell ⟨g, oA + 1, none⟩ (.int .i64 y.addr)).setCell ⟨g, oA + 2, none⟩ (.int .i64 y.prio)).setCell ⟨g, oA + 3, none⟩ (.int .i64 y.dr)).setCell ⟨g, oA + 4, none⟩ (.int .i64 y.bdr)).setCell ⟨g, oA + 5, none⟩ (.bool y.two)).setCell ⟨g, oA + 6, none⟩ (.int .i64 y.left)).cell? ⟨g, oB + 2, none⟩ = some (.int .i64 y.prio) ∧ (((((((W.setCell ⟨g, oA, none⟩ (.int .i64 y.id)).setCell ⟨g, oA + 1, none⟩ (.int .i64 y.addr)).setCell ⟨g, oA + 2, none⟩ (.int .i64 y.prio)).setCell ⟨g, oA + 3, none⟩ (.int .i64 y.dr)).setCell ⟨g, oA + 4, none⟩ (.int .i64 y.bdr)).setCell ⟨g, oA + 5, none⟩ (.bool y.two)).setCell ⟨g, oA + 6, none⟩ (.int .i64 y.left)).cell? ⟨g, oB + 3, none⟩ = some (.int .i64 y.dr) ∧ (((((((W.setCell ⟨g, oA, none⟩ (.int .i64 y.id)).setCell ⟨g, oA + 1, none⟩ (.int .i64 y.addr)).setCell ⟨g, oA + 2, none⟩ (.int .i64 y.prio)).setCell ⟨g, oA + 3, none⟩ (.int .i64 y.dr)).setCell ⟨g, oA + 4, none⟩ (.int .i64 y.bdr)).setCell ⟨g, oA + 5, none⟩ (.bool y.two)).setCell ⟨g, oA + 6, none⟩ (.int .i64 y.left)).cell? ⟨g, oB + 4, none⟩ = some (.int .i64 y.bdr) ∧ (((((((W.setCell ⟨g, oA, none⟩ (.int .i64 y.id)).setCell ⟨g, oA + 1, none⟩ (.int .i64 y.addr)).setCell ⟨g, oA + 2, none⟩ (.int .i64 y.prio)).setCell ⟨g, oA + 3, none⟩ (.int .i64 y.dr)).setCell ⟨g, oA + 4, none⟩ (.int .i64 y.bdr)).setCell ⟨g, oA + 5, none⟩ (.bool y.two)).setCell ⟨g, oA + 6, none⟩ (.int .i64 y.left)).cell? ⟨g, oB + 5, none⟩ = some (.bool y.two) ∧ (((((((W.setCell ⟨g, oA, none⟩ (.int .i64 y.id)).setCell ⟨g, oA + 1, none⟩ (.int .i64 y.addr)).setCell ⟨g, oA + 2, none⟩ (.int .i64 y.prio)).setCell ⟨g, oA + 3, none⟩ (.int .i64 y.dr)).setCell ⟨g, oA + 4, none⟩ (.int .i64 y.bdr)).setCell ⟨g, oA + 5, none⟩ (.bool y.two)).setCell ⟨g, oA + 6, none⟩ (.int .i64 y.left)).cell? ⟨g, oB + 6, none⟩ = some (.int .i64 y.left)) ∧ ((((((((((((((W.setCell ⟨g, oA, none⟩ (.int .i64 y.id)).setCell ⟨g, oA + 1, none⟩ (.int .i64 y.addr)).setCell ⟨g, oA + 2, none⟩ (.int .i64 y.prio)).setCell ⟨g, oA + 3, none⟩ (.int .i64 y.dr)).setCell ⟨g, oA + 4, none⟩ (.int .i64 y.bdr)).setCell ⟨g, oA + 5, none⟩ (.bool y.two)).setCell ⟨g, oA + 6, none⟩ (.int .i64 y.left)).setCell ⟨g, oB, none⟩ (.int .i64 x.id)).setCell ⟨g, oB + 1, none⟩ (.int .i64 x.addr)).setCell ⟨g, oB + 2, none⟩ (.int .i64 x.prio)).setCell ⟨g, oB + 3, none⟩ (.int .i64 x.dr)).setCell ⟨g, oB + 4, none⟩ (.int .i64 x.bdr)).setCell ⟨g, oB + 5, none⟩ (.bool x.two)).setCell ⟨g, oB + 6, none⟩ (.int .i64 x.left)).drew = w2 ∧ Nw w0 g L' w2 := by
  obtain ⟨hc, hf⟩ := h.cells R hl p hp x hx
  obtain ⟨hk, hg⟩ := h.cells R hl q hq y hy
  refine ⟨p * 7, q * 7, _, rfl, rfl, hc, hf, hk, hg, ?_, rfl, ?_⟩
  · have e : ∀ c, c < 7 → (sw7 W g (p * 7) y).cell? ⟨g, q * 7 + c, none⟩ = W.cell? ⟨g, q * 7 + c, none⟩ := fun c hc => sw7_out _ _ _ _ _ (by omega)
    exact ⟨(e 0 (by omega)).trans hk.1, (e 1 (by omega)).trans hk.2.1, (e 2 (by omega)).trans hk.2.2.1, (e 3 (by omega)).trans hk.2.2.2.1, (e 4 (by omega)).trans hk.2.2.2.2.1, (e 5 (by omega)).trans hk.2.2.2.2.2.1, (e 6 (by omega)).trans hk.2.2.2.2.2.2⟩
  · have := SWK.swapped h R p q (by simpa [hl] using hp) (by simpa [hl] using hq)
    rw [hs, hx, hy, Nat.zero_add, Nat.zero_add, ← sw7_eq, ← sw7_eq, sw7_drew] at this
    exact this
/-- What a comparison of two wants: their cells, in whatever world behind. -/
theorem cmp_step {w0 W : World} {g : Nat} {L : List NearZ} {d0 : Array NearZ} (h : Nw w0 g L W) (R : RowK nearC 7 w0 g 0 d0) (hl : L.length = d0.size) (p : Nat) (hp : p < d0.size) (x : NearZ) (hx : L.toArray[p]! = x) :
    ∃ oA, p * 7 = oA ∧ (∀ n os, (grow (W.drewN n) os).cell? ⟨g, oA, none⟩ = some (.int .i64 x.id)) ∧ (∀ n os, (grow (W.drewN n) os).cell? ⟨g, oA + 1, none⟩ = some (.int .i64 x.addr)) ∧ (∀ n os, (grow (W.drewN n) os).cell? ⟨g, oA + 2, none⟩ = some (.int .i64 x.prio)) ∧ (∀ n os, (grow (W.drewN n) os).cell? ⟨g, oA + 3, none⟩ = some (.int .i64 x.dr)) ∧ (∀ n os, (grow (W.drewN n) os).cell? ⟨g, oA + 4, none⟩ = some (.int .i64 x.bdr)) ∧ (∀ n os, (grow (W.drewN n) os).cell? ⟨g, oA + 5, none⟩ = some (.bool x.two)) ∧ (∀ n os, (grow (W.drewN n) os).cell? ⟨g, oA + 6, none⟩ = some (.int .i64 x.left)) := by
  have hg : ∀ n os, Nw w0 g L (grow (W.drewN n) os) := fun n os => SWK.grown h n os
  have hc := fun n os => ((hg n os).cells R hl p hp x hx).1
  exact ⟨_, rfl, fun n os => (hc n os).1, fun n os => (hc n os).2.1, fun n os => (hc n os).2.2.1, fun n os => (hc n os).2.2.2.1, fun n os => (hc n os).2.2.2.2.1, fun n os => (hc n os).2.2.2.2.2.1, fun n os => (hc n os).2.2.2.2.2.2⟩
set_option maxHeartbeats 4000000 in
theorem swapRange_any (w0 : World) (g cap : Nat) (d0 : Array NearZ) (R : RowK nearC 7 w0 g 0 d0) (cb : Value) (a b n : Nat) (P U M V S : List NearZ) (W : World) (hn : (P ++ U ++ M ++ V ++ S).length = d0.size) (ha : a = P.length) (hb : b = P.length + U.length + M.length) (hU : U.length = n) (hV : V.length = n) (hsz : d0.size ≤ 1000000) (hW : Nw w0 g (P ++ U ++ M ++ V ++ S) W) :
    Calls Try.prog 40 #[.slice (some ⟨g, 0, none⟩) d0.size cap, .int .i64 a, .int .i64 b, .int .i64 n, cb] W fun e w' => e = .returned (.tuple #[]) ∧ Nw w0 g (P ++ V ++ M ++ U ++ S) w' := by
  have mixed := mixed11
  have HW : Aside (Nw w0 g (P ++ U ++ M ++ V ++ S) W) := hW
  clear hW
  go_enter Try.func40, Try.ntmps40
  go_wp2
  go_loopg [10] n (fun g1 vi wr => ∃ (i : Nat) (U1 U2 V1 V2 : List NearZ), vi = .int .i64 i ∧ i + g1 = n ∧ U1.length = i ∧ V1.length = i ∧ U2.length = g1 ∧ V2.length = g1 ∧ U1 ++ U2 = U ∧ V1 ++ V2 = V ∧ Aside (Nw w0 g (P ++ V1 ++ U2 ++ M ++ U1 ++ V2 ++ S) wr))
  case atStart => exact ⟨0, [], U, [], V, rfl, by omega, rfl, rfl, hU, hV, rfl, rfl, by simpa using HW⟩
  case round =>
    obtain ⟨i, U1, U2, V1, V2, rfl, hig, h1, h2, h3, h4, h5, h6, HI⟩ := hrel
    by_cases hlt : i < n
    · have hltz : (i : Int) < (n : Int) := by omega
      obtain ⟨x, U3, rfl⟩ : ∃ x U3, U2 = x :: U3 := by cases U2 with
        | nil => simp at h3; omega
        | cons x U3 => exact ⟨x, U3, rfl⟩
      obtain ⟨y, V3, rfl⟩ : ∃ y V3, V2 = y :: V3 := by cases V2 with
        | nil => simp at h4; omega
        | cons y V3 => exact ⟨y, V3, rfl⟩
      have hl : (P ++ V1 ++ (x :: U3) ++ M ++ U1 ++ (y :: V3) ++ S).length = d0.size := by rw [← hn, ← h5, ← h6]; simp; omega
      have ha' : (P ++ V1).length = a + i := by simp; omega
      have hb' : (P ++ V1).length + 1 + (U3 ++ M ++ U1).length = b + i := by rw [← h5] at hb; simp at hb ⊢; omega
      have eL : P ++ V1 ++ (x :: U3) ++ M ++ U1 ++ (y :: V3) ++ S = (P ++ V1) ++ [x] ++ (U3 ++ M ++ U1) ++ [y] ++ (V3 ++ S) := by simp [List.append_assoc]
      have hsw := swp_mid (P ++ V1) (U3 ++ M ++ U1) (V3 ++ S) x y
      rw [hb', ha', ← eL] at hsw
      have hxa : (P ++ V1 ++ (x :: U3) ++ M ++ U1 ++ (y :: V3) ++ S).toArray[a + i]! = x := by
        have := at_mid (P ++ V1) (U3 ++ M ++ U1 ++ (y :: V3) ++ S) x
        rw [ha'] at this; simpa [List.append_assoc] using this
      have hyb : (P ++ V1 ++ (x :: U3) ++ M ++ U1 ++ (y :: V3) ++ S).toArray[b + i]! = y := by
        have := at_mid (P ++ V1 ++ [x] ++ (U3 ++ M ++ U1)) (V3 ++ S) y
        rw [List.length_append, List.length_append, List.length_singleton, hb'] at this; simpa [List.append_assoc] using this
      have ea : ((a : Int) + (i : Int)).toNat = a + i := by omega
      have eb : ((b : Int) + (i : Int)).toNat = b + i := by omega
      have pa : (0 : Int) ≤ (a : Int) + (i : Int) := by omega
      have pb : (0 : Int) ≤ (b : Int) + (i : Int) := by omega
      have hli : a + i < d0.size ∧ b + i < d0.size := by rw [← hl]; constructor <;> (rw [eL]; simp [List.length_append] at ha' hb' ⊢; omega)
      have ba : (a : Int) + (i : Int) < (d0.size : Int) := by omega
      have bb : (b : Int) + (i : Int) < (d0.size : Int) := by omega
      have ra : IntKind.i64.wrap ((a : Int) + (i : Int)) = (a : Int) + (i : Int) := by rw [IntKind.wrap_i64]; omega
      have rb : IntKind.i64.wrap ((b : Int) + (i : Int)) = (b : Int) + (i : Int) := by rw [IntKind.wrap_i64]; omega
      obtain ⟨oA, oB, w2, hoA, hoB, ⟨c0, c1, c2, c3, c4, c5, c6⟩, ⟨f0, f1, f2, f3, f4, f5, f6⟩, ⟨k0, k1, k2, k3, k4, k5, k6⟩, ⟨g0, g1, g2, g3, g4, g5, g6⟩, ⟨j0, j1, j2, j3, j4, j5, j6⟩, hw2, hS⟩ := swap_step HI.out R hl (a + i) (b + i) hli.1 hli.2 (by omega) x y hxa hyb hsw
      have HS : Aside (Nw w0 g (P ++ V1 ++ [y] ++ (U3 ++ M ++ U1) ++ [x] ++ (V3 ++ S)) w2) := hS
      clear HI hxa hyb hsw eL hl ha' hb' hli ha hb hn hS
      go_upto_region 3 with fail
      go_big_region
      clear hw2 j0 j1 j2 j3 j4 j5 j6 c0 c1 c2 c3 c4 c5 c6 f0 f1 f2 f3 f4 f5 f6 k0 k1 k2 k3 k4 k5 k6 g0 g1 g2 g3 g4 g5 g6
      go_wp2
      go_roundg (gk - 1)
      case measure => omega
      case rel =>
        refine ⟨i + 1, U1 ++ [x], U3, V1 ++ [y], V3, by go_num, by omega, by simp [h1], by simp [h2], by simp at h3; omega, by simp at h4; omega, by simp [h5], by simp [h6], ?_⟩
        have := HS.out
        simp only [List.append_assoc, List.cons_append, List.nil_append] at this ⊢
        exact this
    · have hltz : ¬ (i : Int) < (n : Int) := by omega
      go_wp2
      go_end0
      have hg : gk = 0 := by omega
      subst hg
      have e2 : U2 = [] := List.eq_nil_of_length_eq_zero h3
      have e4 : V2 = [] := List.eq_nil_of_length_eq_zero h4
      subst e2 e4
      refine ⟨rfl, ?_⟩
      have := HI.out
      rw [List.append_nil] at h5 h6
      rw [h5, h6, List.append_nil, List.append_nil] at this
      simpa [List.append_assoc] using this
end Go.Proofs.Ytgljblnegiadlaa
