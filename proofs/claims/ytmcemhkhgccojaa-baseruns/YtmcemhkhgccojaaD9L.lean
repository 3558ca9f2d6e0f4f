/- Whether two lists of advertisements are the same, as the document asks it. -/
import Derived.Test.YtmcemhkhgccojaaD8A
import Derived.Test.YtmcemhkhgccojaaS5D5
namespace Go.Proofs.Ytmcemhkhgccojaa
open Go.RowKit
set_option linter.unusedVariables false

/-- Rows that stand there, each with its lists. -/
def RowsIn (w : World) (a : Option Addr) (R : List Row) : Prop := Lies w a (cellsOf rowC R) ∧ ∀ r ∈ R, Held w r.1 r.2 ∧ Mid r.2
theorem RowsIn.below {w w' : World} {a : Option Addr} {R : List Row} (h : RowsIn w a R) (hb : Below w.heap.size w w') : RowsIn w' a R := ⟨h.1.below hb, fun r hr => ⟨(h.2 r hr).1.below hb, (h.2 r hr).2⟩⟩
set_option maxHeartbeats 6400000 in
set_option maxRecDepth 20000 in
theorem dlsas_any (a1 a2 : Option Addr) (c1 c2 n : Nat) (R T : List Row) (w : World) (h1 : RowsIn w a1 R) (h2 : RowsIn w a2 T) (hn : n = R.length) (hn2 : n = T.length) (he : R.map (fun r => r.2) = T.map (fun r => r.2)) (hl : n ≤ 1000000) :
    Calls Try.prog 20 #[.slice a1 n c1, .slice a2 n c2] w fun e w' => e = .returned (.bool true) ∧ Below w.heap.size w w' := by
  have HA : Hid (RowsIn w a1 R) := h1
  have HC : Hid (RowsIn w a2 T) := h2
  have HN : Hid (n = R.length ∧ n = T.length) := ⟨hn, hn2⟩
  have HE : Hid (∀ i (h : i < R.length) (h' : i < T.length), T[i].2 = R[i].2) := fun i h h' => by
    have := congrArg (fun l => l[i]?) he
    simp only [List.getElem?_map, List.getElem?_eq_getElem h, List.getElem?_eq_getElem h', Option.map_some, Option.some.injEq] at this
    exact this.symm
  clear h1 h2 hn hn2 he
  go_enter Try.func20, Try.ntmps20
  go_wp2_with fail
  go_loopw [5] (fun t wr => ∃ i : Nat, i ≤ n ∧ t = .int .i64 (i : Int) ∧ Hid (Below w.heap.size w wr)) (fun t _ => n - (intOf t).toNat)
  case atStart => exact ⟨0, by omega, rfl, Below.refl _ _⟩
  case round =>
    obtain ⟨i, hi, rfl, HB⟩ := hrel
    by_cases hlt : i < n
    · have hiI : (i : Int) < (n : Int) := by omega
      have hiR : i < R.length := by rw [← HN.out.1]; exact hlt
      have hiT : i < T.length := by rw [← HN.out.2]; exact hlt
      obtain ⟨g1, p1, rfl, hx⟩ := DB.at (HA.out.1.below HB.out) i hiR
      obtain ⟨g2, p2, rfl, hy⟩ := DB.at (HC.out.1.below HB.out) i hiT
      have hH1 := HA.out.2 _ (List.getElem_mem hiR)
      have hH2 := HC.out.2 _ (List.getElem_mem hiT)
      have he := HE.out i hiR hiT
      obtain ⟨r, hr⟩ : ∃ r, R[i] = r := ⟨_, rfl⟩
      obtain ⟨u, hu⟩ : ∃ u, T[i] = u := ⟨_, rfl⟩
      rw [hr] at hx hH1 he
      rw [hu] at hy hH2 he
      obtain ⟨t, l⟩ := u
      obtain rfl : l = r.2 := he
      have keepS : Hid (∀ X, Below wr.heap.size wr X → X.cell? ⟨g1, p1 + i * 12, none⟩ = some (.int .i64 r.2.head.age) ∧ X.cell? ⟨g1, p1 + i * 12 + 1, none⟩ = some (.int .i64 r.2.head.kind) ∧ X.cell? ⟨g1, p1 + i * 12 + 2, none⟩ = some (.int .i64 r.2.head.id) ∧ X.cell? ⟨g1, p1 + i * 12 + 3, none⟩ = some (.int .i64 r.2.head.adv) ∧ X.cell? ⟨g1, p1 + i * 12 + 4, none⟩ = some (.int .i64 r.2.head.seq) ∧ X.cell? ⟨g1, p1 + i * 12 + 5, none⟩ = some (.int .i64 r.2.head.sum) ∧ X.cell? ⟨g1, p1 + i * 12 + 6, none⟩ = some (.int .i64 r.2.head.len) ∧ X.cell? ⟨g1, p1 + i * 12 + 7, none⟩ = some (.int .i64 r.2.flags) ∧ X.cell? ⟨g1, p1 + i * 12 + 8, none⟩ = some (.slice r.1.la r.2.links.length r.1.lc) ∧ X.cell? ⟨g1, p1 + i * 12 + 9, none⟩ = some (.int .i64 r.2.bits) ∧ X.cell? ⟨g1, p1 + i * 12 + 10, none⟩ = some (.slice r.1.ra r.2.routers.length r.1.rc) ∧ X.cell? ⟨g1, p1 + i * 12 + 11, none⟩ = some (.slice r.1.va r.2.verts.length r.1.vc) ∧ X.cell? ⟨g2, p2 + i * 12, none⟩ = some (.int .i64 r.2.head.age) ∧ X.cell? ⟨g2, p2 + i * 12 + 1, none⟩ = some (.int .i64 r.2.head.kind) ∧ X.cell? ⟨g2, p2 + i * 12 + 2, none⟩ = some (.int .i64 r.2.head.id) ∧ X.cell? ⟨g2, p2 + i * 12 + 3, none⟩ = some (.int .i64 r.2.head.adv) ∧ X.cell? ⟨g2, p2 + i * 12 + 4, none⟩ = some (.int .i64 r.2.head.seq) ∧ X.cell? ⟨g2, p2 + i * 12 + 5, none⟩ = some (.int .i64 r.2.head.sum) ∧ X.cell? ⟨g2, p2 + i * 12 + 6, none⟩ = some (.int .i64 r.2.head.len) ∧ X.cell? ⟨g2, p2 + i * 12 + 7, none⟩ = some (.int .i64 r.2.flags) ∧ X.cell? ⟨g2, p2 + i * 12 + 8, none⟩ = some (.slice t.la r.2.links.length t.lc) ∧ X.cell? ⟨g2, p2 + i * 12 + 9, none⟩ = some (.int .i64 r.2.bits) ∧ X.cell? ⟨g2, p2 + i * 12 + 10, none⟩ = some (.slice t.ra r.2.routers.length t.rc) ∧ X.cell? ⟨g2, p2 + i * 12 + 11, none⟩ = some (.slice t.va r.2.verts.length t.vc) ∧ Hid (Below wr.heap.size wr X)) := by
        intro X hX
        obtain ⟨c0, c1, c2, c3, c4, c5, c6, c7, c8, c9, c10, c11⟩ := hx.below hX hx.lt
        obtain ⟨d0, d1, d2, d3, d4, d5, d6, d7, d8, d9, d10, d11⟩ := hy.below hX hy.lt
        exact ⟨c0, c1, c2, c3, c4, c5, c6, c7, c8, c9, c10, c11, d0, d1, d2, d3, d4, d5, d6, d7, d8, d9, d10, d11, hX⟩
      have hS0 := keepS.out _ (Below.refl _ _).drew
      have CS : Hid (∀ X, Below wr.heap.size wr X → Calls Try.prog 15 #[.agg (lsaA r.1 r.2), .agg (lsaA t r.2)] X fun e w' => e = .returned (.bool true) ∧ Hid (Below wr.heap.size wr w')) := fun X hX => (dSame_eq r.1 t r.2 X (hH1.1.below (below_more HB.out hX HB.out.size)) (hH2.1.below (below_more HB.out hX HB.out.size)) hH1.2.fits).mono fun e w' h => ⟨h.1, hX.trans (h.2.mono hX.size)⟩
      clear hx hy hH1 hH2 hr hu
      go_upto_region 6 with fail
      go_region_held3 (fun X => X.cell? ⟨g1, p1 + i * 12, none⟩ = some (.int .i64 r.2.head.age) ∧ X.cell? ⟨g1, p1 + i * 12 + 1, none⟩ = some (.int .i64 r.2.head.kind) ∧ X.cell? ⟨g1, p1 + i * 12 + 2, none⟩ = some (.int .i64 r.2.head.id) ∧ X.cell? ⟨g1, p1 + i * 12 + 3, none⟩ = some (.int .i64 r.2.head.adv) ∧ X.cell? ⟨g1, p1 + i * 12 + 4, none⟩ = some (.int .i64 r.2.head.seq) ∧ X.cell? ⟨g1, p1 + i * 12 + 5, none⟩ = some (.int .i64 r.2.head.sum) ∧ X.cell? ⟨g1, p1 + i * 12 + 6, none⟩ = some (.int .i64 r.2.head.len) ∧ X.cell? ⟨g1, p1 + i * 12 + 7, none⟩ = some (.int .i64 r.2.flags) ∧ X.cell? ⟨g1, p1 + i * 12 + 8, none⟩ = some (.slice r.1.la r.2.links.length r.1.lc) ∧ X.cell? ⟨g1, p1 + i * 12 + 9, none⟩ = some (.int .i64 r.2.bits) ∧ X.cell? ⟨g1, p1 + i * 12 + 10, none⟩ = some (.slice r.1.ra r.2.routers.length r.1.rc) ∧ X.cell? ⟨g1, p1 + i * 12 + 11, none⟩ = some (.slice r.1.va r.2.verts.length r.1.vc) ∧ X.cell? ⟨g2, p2 + i * 12, none⟩ = some (.int .i64 r.2.head.age) ∧ X.cell? ⟨g2, p2 + i * 12 + 1, none⟩ = some (.int .i64 r.2.head.kind) ∧ X.cell? ⟨g2, p2 + i * 12 + 2, none⟩ = some (.int .i64 r.2.head.id) ∧ X.cell? ⟨g2, p2 + i * 12 + 3, none⟩ = some (.int .i64 r.2.head.adv) ∧ X.cell? ⟨g2, p2 + i * 12 + 4, none⟩ = some (.int .i64 r.2.head.seq) ∧ X.cell? ⟨g2, p2 + i * 12 + 5, none⟩ = some (.int .i64 r.2.head.sum) ∧ X.cell? ⟨g2, p2 + i * 12 + 6, none⟩ = some (.int .i64 r.2.head.len) ∧ X.cell? ⟨g2, p2 + i * 12 + 7, none⟩ = some (.int .i64 r.2.flags) ∧ X.cell? ⟨g2, p2 + i * 12 + 8, none⟩ = some (.slice t.la r.2.links.length t.lc) ∧ X.cell? ⟨g2, p2 + i * 12 + 9, none⟩ = some (.int .i64 r.2.bits) ∧ X.cell? ⟨g2, p2 + i * 12 + 10, none⟩ = some (.slice t.ra r.2.routers.length t.rc) ∧ X.cell? ⟨g2, p2 + i * 12 + 11, none⟩ = some (.slice t.va r.2.verts.length t.vc) ∧ Hid (Below wr.heap.size wr X)) (with_reducible first | exact hS0 | exact keepS.out _ hk1.out | assumption | fail) (first | (go_at_call 15; refine (CS.out _ (by go_split_ands; exact Hid.out (by assumption))).mono ?_; rintro e v1 ⟨rfl, hk1⟩))
      rename_i hSx
      have HB2 : Hid (Below w.heap.size w v1) := below_more HB.out hk1.out HB.out.size
      clear hSx hS0 keepS CS hk1
      go_wp2
      go_roundw
      case rel => exact ⟨i + 1, by omega, by go_num, HB2⟩
      case measure => simp [intOf]; omega
    · obtain rfl : i = n := by omega
      have hnl : ¬ ((i : Int) < (i : Int)) := by omega
      go_wp2
      go_ret
      exact ⟨rfl, HB.out⟩
end Go.Proofs.Ytmcemhkhgccojaa
