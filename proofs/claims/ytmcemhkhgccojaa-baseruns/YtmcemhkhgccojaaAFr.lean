/- Acts (stage 8) that came in, opened. -/
import Derived.Test.YtmcemhkhgccojaaY8H
namespace Go.Proofs.Ytmcemhkhgccojaa
open Go.ChangeShapes Go.WideShapes Go.ChangeAt Go.RowKit

/-- An act: what to do, an advertisement (and where its lists lie), whether it is sealed first, a Key. -/
structure ActZ where
  act : Int
  row : Row
  sealIt : Bool
  key : KeyZ
def actC (z : ActZ) : List Value := .int .i64 z.act :: ((lsaA z.row.1 z.row.2).toList ++ [.bool z.sealIt, .int .i64 z.key.kind, .int .i64 z.key.id, .int .i64 z.key.adv])
theorem actC_length (z : ActZ) : (actC z).length = 17 := rfl
theorem cells_act : Try.prog.cellsOf 43 = 17 := by kernel_rfl
theorem cells_boolT : Try.prog.cellsOf 4 = 1 := by kernel_rfl
theorem fields_act : ∃ fs : Array Field, Try.prog.underlying 43 = some (.struct fs) ∧ (fs[0]?).map (fun f => (f.type, f.offset)) = some (3, 0) ∧ (fs[1]?).map (fun f => (f.type, f.offset)) = some (39, 1) ∧ (fs[2]?).map (fun f => (f.type, f.offset)) = some (4, 13) ∧ (fs[3]?).map (fun f => (f.type, f.offset)) = some (41, 14) ∧ fs.size = 4 :=
  ⟨_, Try.underlying43, rfl, rfl, rfl, rfl, rfl⟩
section
variable {H : Type} {enc : TypeId × Value → H} {W : World} {base : Nat} {spare : Nat → Bool} {held : Bool}
theorem one_bool {n i : Nat} {cs : List Value} {y : DataW H × List MemPlace} (h : DataW.trod enc Try.prog W base spare held n 4 ((cs.drop i).take 1) = some y) : ∃ k : Bool, cs[i]? = some (.bool k) := by
  obtain ⟨k, hk, _⟩ := DataW.trod_bool Try.underlying4 h
  refine ⟨k, ?_⟩
  have := congrArg (fun l : List Value => l[0]?) hk
  simpa [List.getElem?_take, List.getElem?_drop] using this
set_option maxRecDepth 20000 in
theorem open_actC {fuel : Nat} {cs : List Value} {x : DataW H × List MemPlace} (h : DataW.trod enc Try.prog W base spare held fuel 43 cs = some x) : ∃ z : ActZ, cs = actC z ∧ Came W z.row.1 z.row.2 := by
  obtain ⟨fs, ht, g0, g1, g2, g3, hsz⟩ := fields_act
  obtain ⟨xs, n, _, _, hcl, hlen, hall⟩ := DataW.trod_struct ht h
  rw [cells_act] at hcl
  obtain ⟨f0, k0, t0, o0⟩ := field_at g0
  obtain ⟨f1, k1, t1, o1⟩ := field_at g1
  obtain ⟨f2, k2, t2, o2⟩ := field_at g2
  obtain ⟨f3, k3, t3, o3⟩ := field_at g3
  have e0 := hall 0 f0 k0
  have e1 := hall 1 f1 k1
  have e2 := hall 2 f2 k2
  have e3 := hall 3 f3 k3
  rw [t0, o0, cells_int, List.getElem?_eq_getElem (by omega)] at e0
  rw [t1, o1, cells_lsa, List.getElem?_eq_getElem (by omega)] at e1
  rw [t2, o2, cells_boolT, List.getElem?_eq_getElem (by omega)] at e2
  rw [t3, o3, cells_key, List.getElem?_eq_getElem (by omega)] at e3
  obtain ⟨ac, h0⟩ := one_int e0
  obtain ⟨s, l, h1, hC⟩ := open_lsaC e1
  obtain ⟨se, h2⟩ := one_bool e2
  obtain ⟨k, h3⟩ := open_key _ _ _ e3
  refine ⟨⟨ac, (s, l), se, k⟩, ?_, hC⟩
  match cs, hcl with
  | [c0, c1, c2, c3, c4, c5, c6, c7, c8, c9, c10, c11, c12, c13, c14, c15, c16], _ =>
    simp only [List.drop_succ_cons, List.drop_zero, List.take_succ_cons, List.take_zero, List.cons.injEq, and_true] at h1 h3
    simp at h0 h2
    obtain ⟨q0, q1, q2, q3, q4, q5, q6, q7, q8, q9, q10, q11⟩ := h1
    obtain ⟨p0, p1, p2⟩ := h3
    subst q0 q1 q2 q3 q4 q5 q6 q7 q8 q9 q10 q11 p0 p1 p2 h0 h2
    rfl
set_option maxRecDepth 20000 in
theorem open_acts {b0 : Nat} {v : Value} {d : DataW H} {ps : List MemPlace} (hv : Value.okWide Try.prog W .any b0 22 v) (h : DataW.Trod enc Try.prog W base spare held 22 v d ps) :
    ∃ (a : Option Addr) (cap : Nat) (L : List ActZ), v = .slice a L.length cap ∧ Lies W a (cellsOf actC L) ∧ (∀ z ∈ L, Held W z.row.1 z.row.2 ∧ Nils z.row.1) ∧ L.length ≤ maxLen := by
  obtain ⟨a, len, cap, rfl⟩ := okWide_slice Try.underlying22 hv
  obtain ⟨fuel, hf⟩ := h
  obtain ⟨a', cap', l, h1, h2, _, h4⟩ := open_list (α := { z : ActZ // Came W z.row.1 z.row.2 }) (fun z => actC z.1) 17 (fun _ => rfl) (by omega) Try.underlying22 cells_act (fun n cs y hy => by
    obtain ⟨z, e1, e2⟩ := open_actC hy
    exact ⟨⟨z, e2⟩, e1⟩) hf
  simp [Value.cells] at h1
  obtain ⟨rfl, rfl, rfl⟩ := h1
  refine ⟨_, _, l.map (·.1), by rw [List.length_map], ?_, ?_, by rw [List.length_map]; exact h4⟩
  · have e : cellsOf actC (l.map (·.1)) = cellsOf (fun z : { z : ActZ // Came W z.row.1 z.row.2 } => actC z.1) l := by
      unfold cellsOf; rw [List.flatMap_map]
    rw [e]; exact h2
  · intro z hz
    obtain ⟨y, _, rfl⟩ := List.mem_map.1 hz
    exact ⟨y.2.held, y.2.nils⟩
end
end Go.Proofs.Ytmcemhkhgccojaa
