/- Links and bodies as bytes. -/
import Derived.Test.YtmcemhkhgccojaaS5W5
import Derived.Deep.Cut
import Derived.Deep.RegionHeld3
namespace Go.Proofs.Ytmcemhkhgccojaa
open Go.RowKit

/-- A link in a variable. -/
structure LBox (w : World) (b : Nat) (k : LinkZ) : Prop where
  c0 : w.cell? ⟨b, 0, none⟩ = some (.int .i64 k.kind)
  c1 : w.cell? ⟨b, 1, none⟩ = some (.int .i64 k.id)
  c2 : w.cell? ⟨b, 2, none⟩ = some (.int .i64 k.data)
  c3 : w.cell? ⟨b, 3, none⟩ = some (.int .i64 k.cost)
theorem LBox.grew {w w' : World} {b g g' : Nat} {k : LinkZ} (hx : LBox w b k) (h : Grew w w' g g') (hb : b < w.heap.size) (hne : b ≠ g) : LBox w' b k := by
  obtain ⟨h0, h1, h2, h3⟩ := hx
  exact ⟨by rw [h.cell hb hne]; exact h0, by rw [h.cell hb hne]; exact h1, by rw [h.cell hb hne]; exact h2, by rw [h.cell hb hne]; exact h3⟩
theorem lbox_new (w : World) (k : LinkZ) : LBox (w.alloc (.cells #[.int .i64 k.kind, .int .i64 k.id, .int .i64 k.data, .int .i64 k.cost] 93)) w.heap.size k := by
  constructor <;> simp
set_option maxHeartbeats 1600000 in
theorem appendLink_any (k : LinkZ) (base g cap m : Nat) (ys : List Int) (w : World) (hown : Owns w base g cap ys) (hm : m = ys.length) (hl : ys.length ≤ 70368744177000) :
    Calls Try.prog 93 #[.slice (some ⟨g, 0, none⟩) m cap, .agg #[.int .i64 k.kind, .int .i64 k.id, .int .i64 k.data, .int .i64 k.cost]] w fun e w' => ∃ g' cp, e = .returned (.slice (some ⟨g', 0, none⟩) (m + 12) cp) ∧ Owns w' base g' cp (ys ++ linkZ k) ∧ Below base w w' := by
  have HX : Hid (LBox _ w.heap.size k) := lbox_new w k
  have HN : w.heap.size ≠ g := by have := hown.lt; omega
  have HL : Hid (w.heap.size < (w.alloc (.cells #[.int .i64 k.kind, .int .i64 k.id, .int .i64 k.data, .int .i64 k.cost] 93)).heap.size) := by show _ < _; simp
  have HO : Hid (Owns (w.alloc (.cells #[.int .i64 k.kind, .int .i64 k.id, .int .i64 k.data, .int .i64 k.cost] 93)) base g cap ys) := hown.alloc _
  have HB : Hid (Below base w (w.alloc (.cells #[.int .i64 k.kind, .int .i64 k.id, .int .i64 k.data, .int .i64 k.cost] 93))) := (Below.refl _ _).alloc hown.more _
  clear hown
  subst hm
  go_enter Try.func93, Try.ntmps93
  go_upto_region 1 with fail
  generalize (w.alloc (.cells #[.int .i64 k.kind, .int .i64 k.id, .int .i64 k.data, .int .i64 k.cost] 93)) = W at *
  have HG : Hid (Grew W W g g) := Grew.refl _ _
  have hX := HX.out.grew HG.out HL.out HN
  obtain ⟨c0, c1, c2, c3⟩ := hX
  go_wp2_with fail
  refine (wappend4 _ base _ _ _ _ W HO.out rfl (by omega) HO.out.more).mono ?_
  rintro e w1 ⟨g1, cp1, rfl, ho, hb, hg⟩
  replace HO : Hid (Owns w1 base g1 cp1 _) := ho
  replace HB : Hid (Below base w w1) := HB.out.trans hb
  replace HG : Hid (Grew W w1 g g1) := HG.out.trans hg
  clear ho hb hg c0 c1 c2 c3
  have hX := HX.out.grew HG.out HL.out HN
  obtain ⟨c0, c1, c2, c3⟩ := hX
  go_wp2_with fail
  refine (wappend4 _ base _ _ _ _ w1 HO.out (by simp [be4]) (by simp [be4]; omega) HO.out.more).mono ?_
  rintro e w2 ⟨g2, cp2, rfl, ho, hb, hg⟩
  replace HO : Hid (Owns w2 base g2 cp2 _) := ho
  replace HB : Hid (Below base w w2) := HB.out.trans hb
  replace HG : Hid (Grew W w2 g g2) := HG.out.trans hg
  clear ho hb hg c0 c1 c2 c3
  have hX := HX.out.grew HG.out HL.out HN
  obtain ⟨c0, c1, c2, c3⟩ := hX
  go_wp2_with (at_builtin; go_must (refine wp_append_at _ rfl _ _ rfl base g2 cp2 (ys ++ be4 k.id ++ be4 k.data) _ rfl (by simp [be4]) (HO.out.alloc _) _ _ _ rfl [k.kind % 256, 0] rfl (bts_two _ _ _) (by simp [be4]; omega) (by have := HO.out.more; simp; omega) ?_))
  intro g3 cp3 w3 ho hg hp
  replace HB : Hid (Below base w w3) := below_append HB.out HO.out hg
  replace HO : Hid (Owns w3 base g3 cp3 _) := ho
  replace HG : Hid (Grew W w3 g g3) := HG.out.trans ((Grew.new g2 _).trans (Grew.of hg (by simpa using hp)))
  clear ho hg hp c0 c1 c2 c3
  have hX := HX.out.grew HG.out HL.out HN
  obtain ⟨c0, c1, c2, c3⟩ := hX
  go_wp2_with fail
  refine (wappend2 _ base _ _ _ _ w3 HO.out (by simp [be4]) (by simp [be4]; omega) HO.out.more).mono ?_
  rintro e w4 ⟨g4, cp4, rfl, ho, hb, hg⟩
  replace HO : Hid (Owns w4 base g4 cp4 _) := ho
  replace HB : Hid (Below base w w4) := HB.out.trans hb
  replace HG : Hid (Grew W w4 g g4) := HG.out.trans hg
  clear ho hb hg c0 c1 c2 c3
  go_wp2
  go_ret
  exact ⟨_, _, rfl, by have := HO.out; simpa [linkZ] using this, HB.out⟩
end Go.Proofs.Ytmcemhkhgccojaa
