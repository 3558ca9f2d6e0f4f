/- From a row of numbers that came in to the bytes that a walk speaks of. -/
import Derived.Test.YtmcemhkhgccojaaY8A
import Derived.ProofKit
import Derived.OpenShut
import Derived.ShutString
import Derived.ChangeOld
import Derived.Below
import Derived.Test.YtmcemhkhgccojaaS5W10
import Derived.Test.YtmcemhkhgccojaaX8A
namespace Go.Proofs.Ytmcemhkhgccojaa
open Go.ChangeShapes Go.WideShapes Go.ChangeAt Go.RowKit

theorem own : ownKnob Try.prog.godebug = none := by kernel_rfl
theorem laidOut : laidOutB Try.prog = true := by kernel_rfl

theorem bytes_nil (w : World) : ∃ zs : List Int, zs.length = 0 ∧ Bts w none zs ∧ AreBytes zs ∧ zs.length ≤ 0 ∧ zs.length ≤ maxLen ∧ ((none : Option Addr) = none → 0 = 0) :=
  ⟨[], rfl, .inl rfl, (fun z hz => by cases hz), by simp, by simp, fun _ => rfl⟩
theorem bytes_row {w : World} {x : Addr} {len cap : Nat} {zs : List Int} (hl : len ≤ cap) (hm : cap ≤ maxLen) (hz : zs.length = cap)
    (hcell : ∀ i, i < zs.length → w.cell? (x.add i) = some (.int .u8 (zs.getD i 0))) (hw : ∀ n ∈ zs, (Lit.int .u8 n).wf = true) :
    ∃ zs : List Int, zs.length = len ∧ Bts w (some x) zs ∧ AreBytes zs ∧ zs.length ≤ cap ∧ zs.length ≤ maxLen ∧ (some x = none → cap = 0) := by
  refine ⟨zs.take len, by simp; omega, ?_, fun z hzz => ?_, by simp; omega, by simp; omega, fun h => by cases h⟩
  · rcases Nat.eq_zero_or_pos len with h | h
    · subst h; exact .inl (by simp)
    · obtain ⟨b, off, spot⟩ := x
      have h0 := hcell 0 (by omega)
      have hspot : spot = none := by simpa [Addr.add] using World.cell?_spot h0
      subst hspot
      refine .inr ⟨b, off, rfl, fun i hi => ?_⟩
      simp at hi
      have hc := hcell i (by omega)
      have e : (⟨b, off, none⟩ : Addr).add i = ⟨b, off + i, none⟩ := by
        unfold Addr.add; split
        · subst_vars; rfl
        · rfl
      rw [e] at hc
      rw [hc]
      simp [List.getD_eq_getElem?_getD, show i < len by omega]
  · have h := hw z (List.mem_of_mem_take hzz)
    simpa [Lit.wf, IntKind.min, IntKind.max, IntKind.signed, IntKind.bits] using h
end Go.Proofs.Ytmcemhkhgccojaa
/- What came in, opened: lists, structs of numbers; of no type of the program's but int. -/
namespace Go.Proofs.Ytmcemhkhgccojaa
open Go.ChangeShapes Go.WideShapes Go.ChangeAt Go.RowKit

theorem pick_list {α : Type} {Q : Nat → α → Prop} : ∀ n : Nat, (∀ i, i < n → ∃ x, Q i x) → ∃ l : List α, l.length = n ∧ ∀ (i : Nat) (h : i < l.length), Q i l[i]
  | 0, _ => ⟨[], rfl, fun i h => by simp at h⟩
  | n + 1, h => by
    obtain ⟨l, hl, hq⟩ := pick_list n (fun i hi => h i (by omega))
    obtain ⟨x, hx⟩ := h n (by omega)
    refine ⟨l ++ [x], by simp [hl], fun i hi => ?_⟩
    by_cases hlt : i < l.length
    · rw [List.getElem_append_left hlt]; exact hq i hlt
    · have : i = l.length := by simp at hi; omega
      subst this
      simp
      rw [hl]; exact hx
theorem lies_of {α : Type} {w : World} {base : Nat} {x : Addr} (f : α → List Value) (m : Nat) (hf : ∀ y, (f y).length = m) (hm : 0 < m) {l : List α}
    (hc : ∀ (i : Nat) (h : i < l.length), w.cells? base (x.add (i * m)) m = some (f l[i])) : Lies w (some x) (cellsOf f l) := by
  rcases l with _ | ⟨y, l⟩
  · exact .inl rfl
  · obtain ⟨b, off, spot⟩ := x
    have h0 := (World.cells?_some (hc 0 (by simp))).2.2 0 hm
    have hs : spot = none := by
      have hv : ∃ v, w.cell? ((Addr.add ⟨b, off, spot⟩ (0 * m)).add 0) = some v := by
        rw [h0]; exact ⟨_, List.getElem?_eq_getElem (by rw [hf]; exact hm)⟩
      obtain ⟨v, hv⟩ := hv
      simpa [Addr.add] using World.cell?_spot hv
    subst hs
    refine .inr ⟨b, off, rfl, fun j hj => ?_⟩
    rw [cellsOf_length f m hf] at hj
    have hd : j / m < (y :: l).length := Nat.div_lt_of_lt_mul (by rw [Nat.mul_comm]; exact hj)
    have hr : j % m < m := Nat.mod_lt _ hm
    have e : j = j / m * m + j % m := by rw [Nat.mul_comm]; exact (Nat.div_add_mod j m).symm
    have h1 := (World.cells?_some (hc (j / m) hd)).2.2 (j % m) hr
    rw [addr_add, addr_add] at h1
    conv => lhs; rw [e]
    conv => rhs; rw [e]
    rw [cellsOf_at f m hf _ _ _ hd hr, ← h1, Nat.add_assoc]
section
variable {H : Type} {enc : TypeId × Value → H} {W : World} {base : Nat} {spare : Nat → Bool} {held : Bool}
theorem open_list {α : Type} (f : α → List Value) (m : Nat) (hf : ∀ y, (f y).length = m) (hm : 0 < m) {t e : TypeId} {fuel : Nat} {cs : List Value} {x : DataW H × List MemPlace} (ht : Try.prog.underlying t = some (.slice e)) (hc : Try.prog.cellsOf e = m)
    (hel : ∀ n cs y, DataW.trod enc Try.prog W base spare held n e cs = some y → ∃ z : α, cs = f z)
    (h : DataW.trod enc Try.prog W base spare held fuel t cs = some x) :
    ∃ (a : Option Addr) (cap : Nat) (l : List α), cs = [.slice a l.length cap] ∧ Lies W a (cellsOf f l) ∧ (a = none → cap = 0) ∧ l.length ≤ maxLen := by
  rcases DataW.trod_slice ht h with ⟨h0, _⟩ | ⟨a, len, cap, elems, rest, n, _, rfl, _, _, hl, hcap, hlen, he, _, _⟩
  · exact ⟨none, 0, [], h0, .inl rfl, fun _ => rfl, by simp⟩
  · obtain ⟨l, hll, hq⟩ := pick_list (Q := fun i z => W.cells? base (a.add (i * m)) m = some (f z)) len (fun i hi => by
      have h1 := he i hi
      rw [hc, List.getElem?_eq_getElem (by omega), Option.bind_eq_some_iff] at h1
      obtain ⟨cs', h2, h3⟩ := h1
      obtain ⟨z, rfl⟩ := hel _ _ _ h3
      exact ⟨z, h2⟩)
    refine ⟨some a, cap, l, by rw [hll], lies_of f m hf hm hq, (fun h => by cases h), by omega⟩
theorem one_int {n i : Nat} {cs : List Value} {y : DataW H × List MemPlace} (h : DataW.trod enc Try.prog W base spare held n 3 ((cs.drop i).take 1) = some y) : ∃ k : Int, cs[i]? = some (.int .i64 k) := by
  obtain ⟨k, hk, _⟩ := DataW.trod_int Try.underlying3 h
  refine ⟨k, ?_⟩
  have := congrArg (fun l : List Value => l[0]?) hk
  simpa [List.getElem?_take, List.getElem?_drop] using this
theorem field_at {fs : Array Field} {i ty off : Nat} (h : (fs[i]?).map (fun f => (f.type, f.offset)) = some (ty, off)) : ∃ f, fs[i]? = some f ∧ f.type = ty ∧ f.offset = off := by
  obtain ⟨f, hf, e⟩ := Option.map_eq_some_iff.1 h
  simp only [Prod.mk.injEq] at e
  exact ⟨f, hf, e.1, e.2⟩
theorem cells_int : Try.prog.cellsOf 3 = 1 := by kernel_rfl
/-- A struct whose fields are all of type int. -/
theorem int_struct {t : TypeId} {fs : Array Field} {n : Nat} (ht : Try.prog.underlying t = some (.struct fs)) (hsz : fs.size = n) (hg : ∀ i, i < n → (fs[i]?).map (fun f => (f.type, f.offset)) = some (3, i))
    {fuel : Nat} {cs : List Value} {x : DataW H × List MemPlace} (h : DataW.trod enc Try.prog W base spare held fuel t cs = some x) : ∀ i, i < n → ∃ k : Int, cs[i]? = some (.int .i64 k) := by
  obtain ⟨xs, m, _, _, _, hlen, hall⟩ := DataW.trod_struct ht h
  intro i hi
  obtain ⟨f, hf, h1, h2⟩ := field_at (hg i hi)
  have h3 := hall i f hf
  rw [h1, h2, cells_int, List.getElem?_eq_getElem (by omega)] at h3
  exact one_int h3
theorem trod_len {t : TypeId} {fs : Array Field} (ht : Try.prog.underlying t = some (.struct fs)) {fuel : Nat} {cs : List Value} {x : DataW H × List MemPlace} (h : DataW.trod enc Try.prog W base spare held fuel t cs = some x) : cs.length = Try.prog.cellsOf t := by
  obtain ⟨_, _, _, _, h1, _⟩ := DataW.trod_struct ht h; exact h1
end
end Go.Proofs.Ytmcemhkhgccojaa
/- Advertisements that came in, opened. -/
namespace Go.Proofs.Ytmcemhkhgccojaa
open Go.ChangeShapes Go.WideShapes Go.ChangeAt Go.RowKit

section
variable {H : Type} {enc : TypeId × Value → H} {W : World} {base : Nat} {spare : Nat → Bool} {held : Bool}
theorem cells_link : Try.prog.cellsOf 93 = 4 := by kernel_rfl
theorem cells_vert : Try.prog.cellsOf 64 = 2 := by kernel_rfl
theorem cells_head : Try.prog.cellsOf 34 = 7 := by kernel_rfl
theorem cells_lsa : Try.prog.cellsOf 39 = 12 := by kernel_rfl
theorem cells_links : Try.prog.cellsOf 35 = 1 := by kernel_rfl
theorem cells_ints : Try.prog.cellsOf 36 = 1 := by kernel_rfl
theorem cells_verts : Try.prog.cellsOf 37 = 1 := by kernel_rfl
theorem fields_link : ∃ fs : Array Field, Try.prog.underlying 93 = some (.struct fs) ∧ fs.size = 4 ∧ ∀ i, i < 4 → (fs[i]?).map (fun f => (f.type, f.offset)) = some (3, i) :=
  ⟨_, Try.underlying93, rfl, by decide⟩
theorem fields_vert : ∃ fs : Array Field, Try.prog.underlying 64 = some (.struct fs) ∧ fs.size = 2 ∧ ∀ i, i < 2 → (fs[i]?).map (fun f => (f.type, f.offset)) = some (3, i) :=
  ⟨_, Try.underlying64, rfl, by decide⟩
theorem fields_head : ∃ fs : Array Field, Try.prog.underlying 34 = some (.struct fs) ∧ fs.size = 7 ∧ ∀ i, i < 7 → (fs[i]?).map (fun f => (f.type, f.offset)) = some (3, i) :=
  ⟨_, Try.underlying34, rfl, by decide⟩
theorem open_link (n : Nat) (cs : List Value) (y : DataW H × List MemPlace) (h : DataW.trod enc Try.prog W base spare held n 93 cs = some y) : ∃ z : LinkZ, cs = linkC z := by
  obtain ⟨fs, ht, hsz, hg⟩ := fields_link
  have hi := int_struct ht hsz hg h
  have hl := (trod_len ht h).trans cells_link
  obtain ⟨k0, h0⟩ := hi 0 (by omega)
  obtain ⟨k1, h1⟩ := hi 1 (by omega)
  obtain ⟨k2, h2⟩ := hi 2 (by omega)
  obtain ⟨k3, h3⟩ := hi 3 (by omega)
  match cs, hl with
  | [c0, c1, c2, c3], _ =>
    simp at h0 h1 h2 h3
    subst h0 h1 h2 h3
    exact ⟨⟨k0, k1, k2, k3⟩, rfl⟩
theorem open_vert (n : Nat) (cs : List Value) (y : DataW H × List MemPlace) (h : DataW.trod enc Try.prog W base spare held n 64 cs = some y) : ∃ z : VertZ, cs = vertC z := by
  obtain ⟨fs, ht, hsz, hg⟩ := fields_vert
  have hi := int_struct ht hsz hg h
  have hl := (trod_len ht h).trans cells_vert
  obtain ⟨k0, h0⟩ := hi 0 (by omega)
  obtain ⟨k1, h1⟩ := hi 1 (by omega)
  match cs, hl with
  | [c0, c1], _ =>
    simp at h0 h1
    subst h0 h1
    exact ⟨⟨k0, k1⟩, rfl⟩
theorem open_int1 (n : Nat) (cs : List Value) (y : DataW H × List MemPlace) (h : DataW.trod enc Try.prog W base spare held n 3 cs = some y) : ∃ z : Int, cs = intC z := by
  obtain ⟨k, hk, _⟩ := DataW.trod_int Try.underlying3 h
  exact ⟨k, hk⟩
theorem open_head (n : Nat) (cs : List Value) (y : DataW H × List MemPlace) (h : DataW.trod enc Try.prog W base spare held n 34 cs = some y) : ∃ z : HeadZ, cs = headL z := by
  obtain ⟨fs, ht, hsz, hg⟩ := fields_head
  have hi := int_struct ht hsz hg h
  have hl := (trod_len ht h).trans cells_head
  obtain ⟨k0, h0⟩ := hi 0 (by omega)
  obtain ⟨k1, h1⟩ := hi 1 (by omega)
  obtain ⟨k2, h2⟩ := hi 2 (by omega)
  obtain ⟨k3, h3⟩ := hi 3 (by omega)
  obtain ⟨k4, h4⟩ := hi 4 (by omega)
  obtain ⟨k5, h5⟩ := hi 5 (by omega)
  obtain ⟨k6, h6⟩ := hi 6 (by omega)
  match cs, hl with
  | [c0, c1, c2, c3, c4, c5, c6], _ =>
    simp at h0 h1 h2 h3 h4 h5 h6
    subst h0 h1 h2 h3 h4 h5 h6
    exact ⟨⟨k0, k1, k2, k3, k4, k5, k6⟩, rfl⟩
theorem fields_lsa : ∃ fs : Array Field, Try.prog.underlying 39 = some (.struct fs) ∧ (fs[0]?).map (fun f => (f.type, f.offset)) = some (34, 0) ∧ (fs[1]?).map (fun f => (f.type, f.offset)) = some (3, 7) ∧ (fs[2]?).map (fun f => (f.type, f.offset)) = some (35, 8) ∧ (fs[3]?).map (fun f => (f.type, f.offset)) = some (3, 9) ∧ (fs[4]?).map (fun f => (f.type, f.offset)) = some (36, 10) ∧ (fs[5]?).map (fun f => (f.type, f.offset)) = some (37, 11) ∧ fs.size = 6 :=
  ⟨_, Try.underlying39, rfl, rfl, rfl, rfl, rfl, rfl, rfl⟩
/-- What is said of an advertisement that came in. -/
structure Came (w : World) (s : Seats) (l : LsaZ) : Prop where
  held : Held w s l
  nils : Nils s
set_option maxRecDepth 20000 in
theorem open_lsaC {fuel : Nat} {cs : List Value} {x : DataW H × List MemPlace} (h : DataW.trod enc Try.prog W base spare held fuel 39 cs = some x) : ∃ (s : Seats) (l : LsaZ), cs = lsaL s l ∧ Came W s l := by
  obtain ⟨fs, ht, g0, g1, g2, g3, g4, g5, hsz⟩ := fields_lsa
  obtain ⟨xs, n, _, _, hcl, hlen, hall⟩ := DataW.trod_struct ht h
  rw [cells_lsa] at hcl
  obtain ⟨f0, k0, t0, o0⟩ := field_at g0
  obtain ⟨f1, k1, t1, o1⟩ := field_at g1
  obtain ⟨f2, k2, t2, o2⟩ := field_at g2
  obtain ⟨f3, k3, t3, o3⟩ := field_at g3
  obtain ⟨f4, k4, t4, o4⟩ := field_at g4
  obtain ⟨f5, k5, t5, o5⟩ := field_at g5
  have e0 := hall 0 f0 k0
  have e1 := hall 1 f1 k1
  have e2 := hall 2 f2 k2
  have e3 := hall 3 f3 k3
  have e4 := hall 4 f4 k4
  have e5 := hall 5 f5 k5
  rw [t0, o0, cells_head, List.getElem?_eq_getElem (by omega)] at e0
  rw [t1, o1, cells_int, List.getElem?_eq_getElem (by omega)] at e1
  rw [t2, o2, cells_links, List.getElem?_eq_getElem (by omega)] at e2
  rw [t3, o3, cells_int, List.getElem?_eq_getElem (by omega)] at e3
  rw [t4, o4, cells_ints, List.getElem?_eq_getElem (by omega)] at e4
  rw [t5, o5, cells_verts, List.getElem?_eq_getElem (by omega)] at e5
  obtain ⟨hd, h0⟩ := open_head _ _ _ e0
  obtain ⟨fl, h1⟩ := one_int e1
  obtain ⟨la, lc, ls, h2, hL, nL, _⟩ := open_list linkC 4 (fun _ => rfl) (by omega) Try.underlying35 cells_link open_link e2
  obtain ⟨bi, h3⟩ := one_int e3
  obtain ⟨ra, rc, rs, h4, hR, nR, _⟩ := open_list intC 1 (fun _ => rfl) (by omega) Try.underlying36 cells_int open_int1 e4
  obtain ⟨va, vc, vs, h5, hV, nV, _⟩ := open_list vertC 2 (fun _ => rfl) (by omega) Try.underlying37 cells_vert open_vert e5
  refine ⟨⟨la, lc, ra, rc, va, vc⟩, ⟨hd, fl, ls, bi, rs, vs⟩, ?_, ⟨hL, hR, hV⟩, ⟨nL, nR, nV⟩⟩
  match cs, hcl with
  | [c0, c1, c2, c3, c4, c5, c6, c7, c8, c9, c10, c11], _ =>
    simp at h0 h1 h2 h3 h4 h5
    obtain ⟨q0, q1, q2, q3, q4, q5, q6⟩ := h0
    subst q0 q1 q2 q3 q4 q5 q6 h1 h2 h3 h4 h5
    rfl
set_option maxRecDepth 20000 in
theorem open_lsa {b0 : Nat} {v : Value} {d : DataW H} {ps : List MemPlace} (hv : Value.okWide Try.prog W .any b0 39 v) (h : DataW.Trod enc Try.prog W base spare held 39 v d ps) :
    ∃ (s : Seats) (l : LsaZ), v = .agg (lsaA s l) ∧ Came W s l := by
  obtain ⟨fs, ht, _⟩ := fields_lsa
  obtain ⟨cs, rfl, _⟩ := okWide_struct ht hv
  obtain ⟨fuel, hf⟩ := h
  obtain ⟨s, l, h1, h2⟩ := open_lsaC hf
  refine ⟨s, l, ?_, h2⟩
  obtain ⟨cl⟩ := cs
  simp [Value.cells] at h1
  rw [h1]
set_option maxRecDepth 20000 in
theorem open_headV {b0 : Nat} {v : Value} {d : DataW H} {ps : List MemPlace} (hv : Value.okWide Try.prog W .any b0 34 v) (h : DataW.Trod enc Try.prog W base spare held 34 v d ps) :
    ∃ (z : HeadZ), v = .agg (headA z) := by
  obtain ⟨fs, ht, _⟩ := fields_head
  obtain ⟨cs, rfl, _⟩ := okWide_struct ht hv
  obtain ⟨fuel, hf⟩ := h
  obtain ⟨z, h1⟩ := open_head _ _ _ hf
  refine ⟨z, ?_⟩
  obtain ⟨cl⟩ := cs
  simp [Value.cells] at h1
  rw [h1]
end
end Go.Proofs.Ytmcemhkhgccojaa
/- Keys that came in, opened. -/
namespace Go.Proofs.Ytmcemhkhgccojaa
open Go.ChangeShapes Go.WideShapes Go.ChangeAt Go.RowKit
theorem cells_key : Try.prog.cellsOf 41 = 3 := by kernel_rfl
theorem fields_key : ∃ fs : Array Field, Try.prog.underlying 41 = some (.struct fs) ∧ fs.size = 3 ∧ ∀ i, i < 3 → (fs[i]?).map (fun f => (f.type, f.offset)) = some (3, i) :=
  ⟨_, Try.underlying41, rfl, by decide⟩
section
variable {H : Type} {enc : TypeId × Value → H} {W : World} {base : Nat} {spare : Nat → Bool} {held : Bool}
theorem open_key (n : Nat) (cs : List Value) (y : DataW H × List MemPlace) (h : DataW.trod enc Try.prog W base spare held n 41 cs = some y) : ∃ z : KeyZ, cs = [.int .i64 z.kind, .int .i64 z.id, .int .i64 z.adv] := by
  obtain ⟨fs, ht, hsz, hg⟩ := fields_key
  have hi := int_struct ht hsz hg h
  have hl := (trod_len ht h).trans cells_key
  obtain ⟨k0, h0⟩ := hi 0 (by omega)
  obtain ⟨k1, h1⟩ := hi 1 (by omega)
  obtain ⟨k2, h2⟩ := hi 2 (by omega)
  match cs, hl with
  | [c0, c1, c2], _ =>
    simp at h0 h1 h2
    subst h0 h1 h2
    exact ⟨⟨k0, k1, k2⟩, rfl⟩
set_option maxRecDepth 20000 in
theorem open_keyV {b0 : Nat} {v : Value} {d : DataW H} {ps : List MemPlace} (hv : Value.okWide Try.prog W .any b0 41 v) (h : DataW.Trod enc Try.prog W base spare held 41 v d ps) :
    ∃ (z : KeyZ), v = .agg (keyV z) := by
  obtain ⟨fs, ht, _⟩ := fields_key
  obtain ⟨cs, rfl, _⟩ := okWide_struct ht hv
  obtain ⟨fuel, hf⟩ := h
  obtain ⟨z, h1⟩ := open_key _ _ _ hf
  refine ⟨z, ?_⟩
  obtain ⟨cl⟩ := cs
  simp [Value.cells] at h1
  rw [h1]
end
end Go.Proofs.Ytmcemhkhgccojaa
