/- What each act does to both databases. -/
import Derived.Test.YtmcemhkhgccojaaD8M
import Derived.Test.YtmcemhkhgccojaaD8D
import Derived.Test.YtmcemhkhgccojaaD8F
import Derived.Test.YtmcemhkhgccojaaD9L
import Derived.Test.YtmcemhkhgccojaaS8R1
import Derived.Test.YtmcemhkhgccojaaS8W15
import Derived.Test.YtmcemhkhgccojaaS8L0
namespace Go.Proofs.Ytmcemhkhgccojaa
open Go.RowKit
set_option linter.unusedVariables false

set_option maxHeartbeats 800000 in
theorem new_bad (most : Int) (w : World) (h : most < 1 ∨ 512 < most) :
    Calls Try.prog 7 #[.int .i64 most] w fun e w' => e = .returned (.tuple #[.pointer none, .int .i64 1]) ∧ w' = w := by
  by_cases h1 : most < 1
  · go_enter Try.func7, Try.ntmps7
    go_wp2
    exact bodyPost_ret (v := .tuple #[.pointer none, .int .i64 1]) (by simp [results, Try.results7, go_sem]) rfl ⟨rfl, rfl⟩
  · have h2 : 512 < most := by omega
    go_enter Try.func7, Try.ntmps7
    go_wp2
    exact bodyPost_ret (v := .tuple #[.pointer none, .int .i64 1]) (by simp [results, Try.results7, go_sem]) rfl ⟨rfl, rfl⟩
set_option maxHeartbeats 800000 in
theorem dnew_bad (most : Int) (w : World) (h : most < 1 ∨ 512 < most) :
    Calls Try.prog 8 #[.int .i64 most] w fun e w' => e = .returned (.tuple #[.pointer none, .int .i64 1]) ∧ w' = w := by
  by_cases h1 : most < 1
  · go_enter Try.func8, Try.ntmps8
    go_wp2
    exact bodyPost_ret (v := .tuple #[.pointer none, .int .i64 1]) (by simp [results, Try.results8, go_sem]) rfl ⟨rfl, rfl⟩
  · have h2 : 512 < most := by omega
    go_enter Try.func8, Try.ntmps8
    go_wp2
    exact bodyPost_ret (v := .tuple #[.pointer none, .int .i64 1]) (by simp [results, Try.results8, go_sem]) rfl ⟨rfl, rfl⟩
theorem Keeps.btw {w0 w w' : World} {N b : Nat} {most : Int} {lv : Value} {L : List Row} (h : Keeps w N b most lv L) (hb : Below N w0 w) (hN : N ≤ w.heap.size) (ht : Turned b lv.ownBlock w w') : Below N w0 w' :=
  hb.trans (ht.below hN h.lo h.own_lo)
theorem Keeps.lower8 {w : World} {N M b : Nat} {most : Int} {lv : Value} {L : List Row} (h : Keeps w N b most lv L) (hM : M ≤ N) : Keeps w M b most lv L :=
  ⟨h.obj, Nat.le_trans hM h.lo, ownsRow_base h.own hM, h.ne, h.held, h.nils, h.mid, h.shut, h.offb, h.offg, h.rising, h.len⟩
/-- Both, the program's with Z1, the document's with Z2. -/
def Two8 (w0 w : World) (N b1 b2 : Nat) (most : Int) (Z1 Z2 : List LsaZ) : Prop := ∃ lv1 L1 lv2 L2, Keeps w N b1 most lv1 L1 ∧ Keeps w N b2 most lv2 L2 ∧ (L1.map fun r => r.2) = Z1 ∧ (L2.map fun r => r.2) = Z2 ∧ Apart b1 lv1 L1 b2 lv2 L2 ∧ Below N w0 w ∧ N ≤ w.heap.size
theorem Two8.below {w0 w w' : World} {N b1 b2 : Nat} {most : Int} {Z1 Z2 : List LsaZ} (h : Two8 w0 w N b1 b2 most Z1 Z2) (hb : Below w.heap.size w w') : Two8 w0 w' N b1 b2 most Z1 Z2 :=
  let ⟨lv1, L1, lv2, L2, h1, h2, e1, e2, ha, hw, hn⟩ := h
  ⟨lv1, L1, lv2, L2, h1.below hb, h2.below hb, e1, e2, ha, below_more hw hb hn, Nat.le_trans hn hb.size⟩
theorem Two8.one {w0 w w' : World} {N b1 b2 : Nat} {most : Int} {lv1 lv1' lv2 : Value} {L1 L1' L2 : List Row} {Z1 Z2 : List LsaZ} (h1 : Keeps w N b1 most lv1 L1) (h2 : Keeps w N b2 most lv2 L2) (ha : Apart b1 lv1 L1 b2 lv2 L2) (hw : Below N w0 w) (hn : N ≤ w.heap.size) (k1 : Keeps w' N b1 most lv1' L1') (e1 : (L1'.map fun r => r.2) = Z1) (e2 : (L2.map fun r => r.2) = Z2) (ht : Turned b1 lv1.ownBlock w w') (hs : Still w lv1 lv1' L1 L1') : Two8 w0 w' N b1 b2 most Z1 Z2 := by
  obtain ⟨m1, m2⟩ := ha.turn h1 h2 ht hs
  exact ⟨lv1', L1', lv2, L2, k1, m1, e1, e2, m2, h1.btw hw hn ht, Nat.le_trans hn ht.size⟩
theorem Two8.two {w0 w w' : World} {N b1 b2 : Nat} {most : Int} {lv1 lv2 lv2' : Value} {L1 L2 L2' : List Row} {Z1 Z2 : List LsaZ} (h1 : Keeps w N b1 most lv1 L1) (h2 : Keeps w N b2 most lv2 L2) (ha : Apart b1 lv1 L1 b2 lv2 L2) (hw : Below N w0 w) (hn : N ≤ w.heap.size) (k2 : Keeps w' N b2 most lv2' L2') (e1 : (L1.map fun r => r.2) = Z1) (e2 : (L2'.map fun r => r.2) = Z2) (ht : Turned b2 lv2.ownBlock w w') (hs : Still w lv2 lv2' L2 L2') : Two8 w0 w' N b1 b2 most Z1 Z2 := by
  obtain ⟨m1, m2⟩ := ha.swap.turn h2 h1 ht hs
  exact ⟨lv1, L1, lv2', L2', m1, k2, e1, e2, m2.swap, h2.btw hw hn ht, Nat.le_trans hn ht.size⟩
/-- Blocks that are neither's stay what they are. -/
def Away (w w' : World) (N : Nat) : Prop := ∀ nb vs, Var w nb vs → nb < N → Var w' nb vs
theorem Two8.put1 {w0 w : World} {N b1 b2 : Nat} {most : Int} {Z : List LsaZ} (hm : most ≤ 512) (h : Two8 w0 w N b1 b2 most Z Z) (s : Seats) (l : LsaZ) (hH : Held w s l) (hf : Mid l) (hN : Nils s) :
    Calls Try.prog 10 #[.pointer (some ⟨b1, 0, none⟩), .agg (lsaA s l)] w fun e w' => e = .returned (.int .i64 (dbE most Z l)) ∧ Two8 w0 w' N b1 b2 most (dbZ most Z l) Z ∧ (∃ o, Turned b1 o w w' ∧ b1 < w.heap.size ∧ ∀ lv1 L1, Keeps w N b1 most lv1 L1 → lv1.ownBlock = o) := by
  obtain ⟨lv1, L1, lv2, L2, h1, h2, e1, e2, ha, hw, hn⟩ := h
  refine (put_step N b1 most hm lv1 L1 s l w h1 hH hf hN hn).mono ?_
  rintro e w' ⟨rfl, lv', L', k1, k2, k3, k4⟩
  rw [e1] at k2 ⊢
  refine ⟨rfl, Two8.one h1 h2 ha hw hn k1 k2 e2 k3 k4, lv1.ownBlock, k3, h1.obj.lt, fun lv9 L9 h9 => ?_⟩
  have c1 := h1.obj.cell 1 rfl
  have c9 := h9.obj.cell 1 rfl
  rw [c1] at c9
  simp only [Option.some.injEq] at c9
  rw [c9]
def dropZ (Z : List LsaZ) (k : KeyZ) : List LsaZ := if thereB (asRows Z) k = true then Z.take (posZ (asRows Z) k) ++ Z.drop (posZ (asRows Z) k + 1) else Z
theorem dropZ_yes {L : List Row} {k : KeyZ} (ht : thereB L k = true) : dropZ (L.map fun r => r.2) k = (delL L (posZ L k)).map fun r => r.2 := by
  unfold dropZ delL
  rw [there_as, if_pos ht, posZ_as, List.map_append, List.map_take, List.map_drop]
theorem dropZ_no {L : List Row} {k : KeyZ} (ht : thereB L k = false) : dropZ (L.map fun r => r.2) k = L.map fun r => r.2 := by
  unfold dropZ
  rw [there_as, if_neg (by rw [ht]; simp)]
def DropEnd (w : World) (N b : Nat) (most : Int) (lv : Value) (L : List Row) (k : KeyZ) (e : Ending) (w' : World) : Prop := e = .returned (.bool (thereB (asRows (L.map fun r => r.2)) k)) ∧ ∃ lv' L', Keeps w' N b most lv' L' ∧ (L'.map fun r => r.2) = dropZ (L.map fun r => r.2) k ∧ Turned b lv.ownBlock w w' ∧ Still w lv lv' L L'
theorem still_del {w : World} {lv lv' : Value} {L : List Row} {p : Nat} (h : Hence w lv lv') : Still w lv lv' L (delL L p) := ⟨h, fun k hk hr r hm => hr r (delL_mem hm)⟩
theorem drop_step (N b : Nat) (most : Int) (lv : Value) (L : List Row) (k : KeyZ) (w : World) (h : Keeps w N b most lv L) :
    Calls Try.prog 16 #[.pointer (some ⟨b, 0, none⟩), .agg (keyV k)] w (DropEnd w N b most lv L k) := by
  cases ht : thereB L k with
  | false =>
    refine (drop_no N b most lv L k w h ht).mono ?_
    rintro e w' ⟨rfl, hb⟩
    exact ⟨by rw [there_as, ht], lv, L, h.below hb, (dropZ_no ht).symm, Turned.of b _ hb, Still.refl _ _ _⟩
  | true =>
    refine (drop_yes N b most lv L k w h ht).mono ?_
    rintro e w' ⟨rfl, lv', h1, h2, h3⟩
    exact ⟨by rw [there_as, ht], lv', _, h1, (dropZ_yes ht).symm, h2, still_del (.inl h3)⟩
theorem ddrop_step (N b : Nat) (most : Int) (lv : Value) (L : List Row) (k : KeyZ) (w : World) (h : Keeps w N b most lv L) (hn : N ≤ w.heap.size) :
    Calls Try.prog 17 #[.pointer (some ⟨b, 0, none⟩), .agg (keyV k)] w (DropEnd w N b most lv L k) := by
  cases ht : thereB L k with
  | false =>
    refine (ddrop_no N b most lv L k w h ht).mono ?_
    rintro e w' ⟨rfl, hb⟩
    exact ⟨by rw [there_as, ht], lv, L, h.below hb, (dropZ_no ht).symm, Turned.of b _ hb, Still.refl _ _ _⟩
  | true =>
    refine (ddrop_yes N b most lv L k w h hn ht).mono ?_
    rintro e w' ⟨rfl, lv', h1, h2, h3⟩
    exact ⟨by rw [there_as, ht], lv', _, h1, (dropZ_yes ht).symm, h2, still_del h3⟩
/-- What Get tells, in plain data: an advertisement with nothing in it where there is none. -/
def zeroL : LsaZ := ⟨⟨0, 0, 0, 0, 0, 0, 0⟩, 0, [], 0, [], []⟩
def getZ (Z : List LsaZ) (k : KeyZ) : LsaZ := if thereB (asRows Z) k = true then (Z[posZ (asRows Z) k]?).getD zeroL else zeroL
def GetEnd8 (w : World) (Z : List LsaZ) (k : KeyZ) (e : Ending) (w' : World) : Prop := ∃ s, e = .returned (.tuple #[.agg (lsaA s (getZ Z k)), .bool (thereB (asRows Z) k)]) ∧ Held w' s (getZ Z k) ∧ Fits (getZ Z k) ∧ Below w.heap.size w w'
theorem zero_fits : Fits zeroL := Mid.fits ⟨by simp [zeroL], by simp [zeroL], by simp [zeroL]⟩
theorem zero_held (w : World) : Held w sZ zeroL := ⟨.inl rfl, .inl rfl, .inl rfl⟩
theorem getZ_yes {L : List Row} {k : KeyZ} (ht : thereB L k = true) (hp : posZ L k < L.length) : getZ (L.map fun r => r.2) k = (L[posZ L k]).2 := by
  unfold getZ
  rw [there_as, if_pos ht, posZ_as, List.getElem?_map, List.getElem?_eq_getElem hp]; rfl
theorem getZ_no {L : List Row} {k : KeyZ} (ht : thereB L k = false) : getZ (L.map fun r => r.2) k = zeroL := by
  unfold getZ
  rw [there_as, if_neg (by rw [ht]; simp)]
theorem get_step (N b : Nat) (most : Int) (lv : Value) (L : List Row) (k : KeyZ) (w : World) (h : Keeps w N b most lv L) :
    Calls Try.prog 13 #[.pointer (some ⟨b, 0, none⟩), .agg (keyV k)] w (GetEnd8 w (L.map fun r => r.2) k) := by
  cases ht : thereB L k with
  | false =>
    refine (get_no N b most lv L k w h ht).mono ?_
    rintro e w' ⟨rfl, hb⟩
    exact ⟨sZ, by rw [there_as, ht, getZ_no ht]; rfl, by rw [getZ_no ht]; exact zero_held _, by rw [getZ_no ht]; exact zero_fits, hb⟩
  | true =>
    obtain ⟨hp, hk⟩ := thereB_yes ht
    refine (get_yes N b most lv L k w h ht _ (List.getElem?_eq_getElem hp)).mono ?_
    rintro e w' ⟨s1, rfl, hh, hn, hb⟩
    exact ⟨s1, by rw [there_as, ht, getZ_yes ht hp], by rw [getZ_yes ht hp]; exact hh, by rw [getZ_yes ht hp]; exact (h.mid _ (List.getElem_mem hp)).fits, hb⟩
theorem dget_step (N b : Nat) (most : Int) (lv : Value) (L : List Row) (k : KeyZ) (w : World) (h : Keeps w N b most lv L) :
    Calls Try.prog 14 #[.pointer (some ⟨b, 0, none⟩), .agg (keyV k)] w (GetEnd8 w (L.map fun r => r.2) k) := by
  cases ht : thereB L k with
  | false =>
    refine (dget_no N b most lv L k w h ht).mono ?_
    rintro e w' ⟨rfl, hb⟩
    exact ⟨sZ, by rw [there_as, ht, getZ_no ht]; rfl, by rw [getZ_no ht]; exact zero_held _, by rw [getZ_no ht]; exact zero_fits, hb⟩
  | true =>
    obtain ⟨hp, hk⟩ := thereB_yes ht
    refine (dget_yes N b most lv L k w h ht _ (List.getElem?_eq_getElem hp)).mono ?_
    rintro e w' ⟨s1, rfl, hh, hn, hb⟩
    exact ⟨s1, by rw [there_as, ht, getZ_yes ht hp], by rw [getZ_yes ht hp]; exact hh, by rw [getZ_yes ht hp]; exact (h.mid _ (List.getElem_mem hp)).fits, hb⟩
/-- A copy in the program's place. -/
theorem Two8.copy {w0 w : World} {N b1 b2 : Nat} {most : Int} {Z Z2 : List LsaZ} (h : Two8 w0 w N b1 b2 most Z Z2) :
    Calls Try.prog 18 #[.pointer (some ⟨b1, 0, none⟩)] w fun e w' => ∃ b, e = .returned (.pointer (some ⟨b, 0, none⟩)) ∧ Two8 w0 w' N b b2 most Z Z2 ∧ Below w.heap.size w w' := by
  obtain ⟨lv1, L1, lv2, L2, h1, h2, e1, e2, ha, hw, hn⟩ := h
  refine (copy_any N b1 most lv1 L1 w h1).mono ?_
  rintro e w' ⟨b, lv, R, rfl, hK, hR, ho, hb, hf⟩
  refine ⟨b, rfl, ⟨lv, R, lv2, L2, hK.lower8 hn, h2.below hb, ?_, e2, ⟨⟨⟨?_, ?_, ?_⟩, fun k hk => ⟨?_, ?_, ?_⟩⟩, ?_, fun k hk => ?_⟩, below_more hw hb hn, Nat.le_trans hn hb.size⟩, hb⟩
  · rw [← e1]; exact hR
  · have := hK.lo; have := h2.obj.lt; omega
  · intro e; have := ho b2 e; have := h2.obj.lt; omega
  · exact fun r hr => (hf r hr).off h2.obj.lt
  · have := hK.lo; have := h2.own_lt k hk; omega
  · intro e; have := ho k e; have := h2.own_lt k hk; omega
  · exact fun r hr => (hf r hr).off (h2.own_lt k hk)
  · exact h2.clear_new hK.lo
  · exact h2.clear_new (ho k hk)
end Go.Proofs.Ytmcemhkhgccojaa
