/- A datagram that came in, opened. -/
import Derived.Test.YtknpgpmckabmbaaDoorBFr
namespace Go.Proofs.YtknpgpmckabmbaaDoor
open Go.ChangeShapes Go.WideShapes Go.ChangeAt Go.RowKit

theorem array5 {α : Type} {cs : Array α} (h : cs.size = 5) : ∃ c0 c1 c2 c3 c4, cs = #[c0, c1, c2, c3, c4] := by
  obtain ⟨l⟩ := cs
  match l, h with
  | [c0, c1, c2, c3, c4], _ => exact ⟨c0, c1, c2, c3, c4, rfl⟩
theorem cells_int : Tryd.prog.cellsOf 3 = 1 := by kernel_rfl
theorem cells_bytes : Tryd.prog.cellsOf 22 = 1 := by kernel_rfl
theorem cells_dgram : Tryd.prog.cellsOf 24 = 5 := by kernel_rfl
theorem fields_dgram : ∃ fs : Array Field, Tryd.prog.underlying 24 = some (.struct fs) ∧ (fs[0]?).map (fun f => (f.type, f.offset)) = some (3, 0) ∧ (fs[1]?).map (fun f => (f.type, f.offset)) = some (3, 1) ∧ (fs[2]?).map (fun f => (f.type, f.offset)) = some (3, 2) ∧ (fs[3]?).map (fun f => (f.type, f.offset)) = some (3, 3) ∧ (fs[4]?).map (fun f => (f.type, f.offset)) = some (22, 4) ∧ fs.size = 5 :=
  ⟨_, Tryd.underlying24, rfl, rfl, rfl, rfl, rfl, rfl⟩
theorem field_at {fs : Array Field} {i ty off : Nat} (h : (fs[i]?).map (fun f => (f.type, f.offset)) = some (ty, off)) : ∃ f, fs[i]? = some f ∧ f.type = ty ∧ f.offset = off := by
  obtain ⟨f, hf, e⟩ := Option.map_eq_some_iff.1 h
  simp only [Prod.mk.injEq] at e
  exact ⟨f, hf, e.1, e.2⟩
theorem open_dgram {H : Type} {enc : TypeId × Value → H} {W : World} {b0 base : Nat} {spare : Nat → Bool} {held : Bool} {v : Value} {d : DataW H} {ps : List MemPlace} (hsp : ∀ b, spare b = true) (hv : Value.okWide Tryd.prog W .any b0 24 v)
    (h : DataW.Trod enc Tryd.prog W base spare held 24 v d ps) :
    ∃ (t p s q : Int) (a : Option Addr) (cap : Nat) (zs : List Int), v = .agg #[.int .i64 t, .int .i64 p, .int .i64 s, .int .i64 q, .slice a zs.length cap] ∧ Bts W a zs ∧ AreBytes zs ∧ zs.length ≤ cap ∧ zs.length ≤ maxLen ∧ (a = none → cap = 0) := by
  obtain ⟨fs, hs, g0, g1, g2, g3, g4, hsz⟩ := fields_dgram
  obtain ⟨cs, rfl, hcs⟩ := okWide_struct hs hv
  obtain ⟨c0, c1, c2, c3, c4, rfl⟩ := array5 (hcs.trans cells_dgram)
  obtain ⟨fuel, hf⟩ := h
  obtain ⟨xs, n, _, hx, _, hlen, hall⟩ := DataW.trod_struct hs hf
  obtain ⟨f0, k0, t0, o0⟩ := field_at g0
  obtain ⟨f1, k1, t1, o1⟩ := field_at g1
  obtain ⟨f2, k2, t2, o2⟩ := field_at g2
  obtain ⟨f3, k3, t3, o3⟩ := field_at g3
  obtain ⟨f4, k4, t4, o4⟩ := field_at g4
  have hl5 : xs.length = 5 := by rw [hlen, hsz]
  have e0 := hall 0 f0 k0
  have e1 := hall 1 f1 k1
  have e2 := hall 2 f2 k2
  have e3 := hall 3 f3 k3
  have e4 := hall 4 f4 k4
  rw [t0, o0, cells_int] at e0
  rw [t1, o1, cells_int] at e1
  rw [t2, o2, cells_int] at e2
  rw [t3, o3, cells_int] at e3
  rw [t4, o4, cells_bytes] at e4
  rw [List.getElem?_eq_getElem (by omega)] at e0 e1 e2 e3 e4
  obtain ⟨n0, h0, _⟩ := DataW.trod_int Tryd.underlying3 e0
  obtain ⟨n1, h1, _⟩ := DataW.trod_int Tryd.underlying3 e1
  obtain ⟨n2, h2, _⟩ := DataW.trod_int Tryd.underlying3 e2
  obtain ⟨n3, h3, _⟩ := DataW.trod_int Tryd.underlying3 e3
  simp [Value.cells] at h0 h1 h2 h3
  subst h0 h1 h2 h3
  rcases open_ints Tryd.underlying22 Tryd.underlying5 (by kernel_rfl) e4 with ⟨h4, _⟩ | ⟨x, l, c, zs, h4, _, hl, hm, hz, _, hcell, hwz⟩
  · simp [Value.cells] at h4
    subst h4
    obtain ⟨zs, hl, hr⟩ := bytes_nil W
    exact ⟨n0, n1, n2, n3, none, 0, zs, by rw [hl], hr⟩
  · simp [Value.cells] at h4
    subst h4
    obtain ⟨ys, hly, hr⟩ := bytes_row hl hm (by rw [hz, hsp, if_pos rfl]) hcell hwz
    exact ⟨n0, n1, n2, n3, some x, c, ys, by rw [hly], hr⟩
end Go.Proofs.YtknpgpmckabmbaaDoor
