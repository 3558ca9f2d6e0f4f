/- Bodies as bytes. -/
import Derived.Test.YtmcemhkhgccojaaS5W6
namespace Go.Proofs.Ytmcemhkhgccojaa
open Go.RowKit

theorem Box.grew {w w' : World} {b g g' : Nat} {s : Seats} {l : LsaZ} (hx : Box w b s l) (h : Grew w w' g g') (hb : b < w.heap.size) (hne : b ≠ g) : Box w' b s l := by
  obtain ⟨h0, h1, h2, h3, h4, h5, h6, h7, h8, h9, h10, h11⟩ := hx
  exact ⟨by rw [h.cell hb hne]; exact h0, by rw [h.cell hb hne]; exact h1, by rw [h.cell hb hne]; exact h2, by rw [h.cell hb hne]; exact h3, by rw [h.cell hb hne]; exact h4, by rw [h.cell hb hne]; exact h5, by rw [h.cell hb hne]; exact h6, by rw [h.cell hb hne]; exact h7, by rw [h.cell hb hne]; exact h8, by rw [h.cell hb hne]; exact h9, by rw [h.cell hb hne]; exact h10, by rw [h.cell hb hne]; exact h11⟩
theorem ret_slice {a : Option Addr} {n m c : Nat} (h : n = m) : Ending.returned (.slice a n c) = .returned (.slice a m c) := by rw [h]
/-- Lists of lengths that a body's bytes can have. -/
structure Mid (l : LsaZ) : Prop where
  hl : l.links.length ≤ 1000000
  hr : l.routers.length ≤ 1000000
  hv : l.verts.length ≤ 1000000
theorem Mid.fits {l : LsaZ} (h : Mid l) : Fits l := ⟨by have := h.hl; omega, by have := h.hr; omega, by have := h.hv; omega⟩
set_option maxHeartbeats 1600000 in
theorem appendBody_1 (s : Seats) (l : LsaZ) (base g cap m : Nat) (ys : List Int) (w0 w : World) (hown : Owns w base g cap ys) (hm : m = ys.length) (hl : ys.length ≤ 1000000) (hH : Held w0 s l) (hb0 : Below base w0 w) (hN0 : w0.heap.size ≤ base) (hf : Mid l) (hk : l.head.kind = 1) :
    Calls Try.prog 88 #[.slice (some ⟨g, 0, none⟩) m cap, .agg (lsaA s l)] w fun e w' => ∃ g' cp, e = .returned (.slice (some ⟨g', 0, none⟩) (ys ++ bodyZ l).length cp) ∧ Owns w' base g' cp (ys ++ bodyZ l) ∧ Below base w w' := by
  have HE : Hid (bodyZ l = ([l.flags % 256, 0] ++ be2 l.links.length) ++ l.links.flatMap linkZ) := by show _ = _; unfold bodyZ; simp [hk]
  have HX : Hid (Box _ w.heap.size s l) := box_new w s l
  have HN : w.heap.size ≠ g := by have := hown.lt; omega
  have HL : Hid (w.heap.size < (w.alloc (.cells (lsaA s l) 39)).heap.size) := by show _ < _; simp
  have HO : Hid (Owns (w.alloc (.cells (lsaA s l) 39)) base g cap ys) := hown.alloc _
  have HB : Hid (Below base w (w.alloc (.cells (lsaA s l) 39))) := (Below.refl _ _).alloc hown.more _
  have HH : Hid (Held w0 s l) := hH
  have HZ : Hid (Below base w0 w) := hb0
  have HM : w0.heap.size ≤ base := hN0
  obtain ⟨f1, f2, f3⟩ := hf
  obtain ⟨la, lc, ra, rc, va, vc⟩ := s
  have e1 : (l.head.kind == 1) = true := by simp [hk]
  clear hown hH hb0 hN0 hk
  subst hm
  go_enter Try.func88, Try.ntmps88
  go_upto_region 1 with fail
  generalize (w.alloc (.cells (lsaA ⟨la, lc, ra, rc, va, vc⟩ l) 39)) = W at *
  have HG : Hid (Grew W W g g) := Grew.refl _ _
  have hX := HX.out.grew HG.out HL.out HN
  obtain ⟨c0, c1, c2, c3, c4, c5, c6, c7, c8, c9, c10, c11⟩ := hX
  go_wp2_with (at_builtin; go_must (refine wp_append_at _ rfl _ _ rfl base g cap ys _ rfl rfl (HO.out.alloc _) _ _ _ rfl [l.flags % 256, 0] rfl (bts_two _ _ _) (by simp; omega) (by have := HO.out.more; simp; omega) ?_))
  intro g1 cp1 w1 ho hg hp
  replace HB : Hid (Below base w w1) := below_append HB.out HO.out hg
  replace HO : Hid (Owns w1 base g1 cp1 _) := ho
  replace HG : Hid (Grew W w1 g g1) := HG.out.trans ((Grew.new g _).trans (Grew.of hg (by simpa using hp)))
  clear ho hg hp c0 c1 c2 c3 c4 c5 c6 c7 c8 c9 c10 c11
  have hX := HX.out.grew HG.out HL.out HN
  obtain ⟨c0, c1, c2, c3, c4, c5, c6, c7, c8, c9, c10, c11⟩ := hX
  go_wp2_with fail
  refine (wappend2 _ base _ _ _ _ w1 HO.out (by simp) (by simp; omega) HO.out.more).mono ?_
  rintro e w2 ⟨g2, cp2, rfl, ho, hb, hg⟩
  replace HO : Hid (Owns w2 base g2 cp2 _) := ho
  replace HB : Hid (Below base w w2) := HB.out.trans hb
  replace HG : Hid (Grew W w2 g g2) := HG.out.trans hg
  clear ho hb hg c0 c1 c2 c3 c4 c5 c6 c7 c8 c9 c10 c11
  have hX := HX.out.grew HG.out HL.out HN
  obtain ⟨c0, c1, c2, c3, c4, c5, c6, c7, c8, c9, c10, c11⟩ := hX
  go_wp2_with fail
  clear c0 c1 c2 c3 c4 c5 c6 c7 c8 c9 c10 c11 HX HG HL HN
  go_loopw [0, 30] (fun v t wr => ∃ (k : Nat) (zs : List Int) (n gk cp : Nat), v = .slice (some ⟨gk, 0, none⟩) n cp ∧ t = .int .i64 k ∧ k ≤ l.links.length ∧ Hid (n = zs.length) ∧ Hid (zs = (ys ++ [l.flags % 256, 0] ++ be2 l.links.length) ++ (l.links.take k).flatMap linkZ) ∧ Hid (zs.length ≤ 1000020 + k * 12) ∧ Hid (Owns wr base gk cp zs) ∧ Hid (Below base w wr)) (fun _ t _ => l.links.length - (intOf t).toNat)
  case atStart => exact ⟨0, _, _, _, _, rfl, rfl, by omega, by show _ = _; simp [be2], by show _ = _; simp, by show _ ≤ _; simp [be2]; omega, HO.out, HB.out⟩
  case round =>
    obtain ⟨k, zs, n, gk, cp, rfl, rfl, hk, hn, hz, hzl, ho, hb⟩ := hrel
    by_cases hlt : k < l.links.length
    · have hLs := (HH.out.belowN (below_more HZ.out hb.out (Nat.le_refl _)) HM).hl
      dsimp only at hLs
      obtain ⟨b, off, rfl, c0, c1, c2, c3⟩ := Links.cells hLs k hlt
      clear hLs
      go_wp2_with fail
      refine (appendLink_any l.links[k] base gk cp n zs _ (ho.out.alloc _) hn.out (by have := hzl.out; omega)).mono ?_
      rintro e wk ⟨g', cp', rfl, hok, hbk⟩
      have HOk : Hid (Owns wk base g' cp' _) := hok
      have HBk : Hid (Below base w wk) := (hb.out.alloc ho.out.more _).trans hbk
      have HNk : Hid (n + 12 = (zs ++ linkZ l.links[k]).length) := by show _ = _; rw [List.length_append, ← hn.out] <;> rfl
      have HZk : Hid (zs ++ linkZ l.links[k] = (ys ++ [l.flags % 256, 0] ++ be2 l.links.length) ++ (l.links.take (k + 1)).flatMap linkZ) := by show _ = _; rw [hz.out, take_flat linkZ l.links k hlt]; simp
      have HLk : Hid ((zs ++ linkZ l.links[k]).length ≤ 1000020 + (k + 1) * 12) := by show _ ≤ _; have := hzl.out; have := hn.out; have := HNk.out; omega
      clear hok hbk ho hb hn hz hzl
      go_wp2
      go_roundw
      case rel => exact ⟨k + 1, _, _, g', cp', rfl, by go_num, by omega, HNk.out, HZk.out, HLk.out, HOk.out, HBk.out⟩
      case measure => simp [intOf]; omega
    · obtain rfl : k = l.links.length := by omega
      have hzz : zs = ys ++ bodyZ l := by have := hz.out; rw [List.take_length] at this; rw [this, HE.out] <;> simp
      have HO2 : Hid (Owns wr base gk cp (ys ++ bodyZ l)) := hzz ▸ ho.out
      have hnn : n = (ys ++ bodyZ l).length := by rw [hn.out, hzz]
      have HN2 : Hid (n = (ys ++ bodyZ l).length) := hnn
      clear hzz hz ho hn hnn hzl
      go_wp2
      go_ret
      exact ⟨_, _, ret_slice HN2.out, HO2.out, hb.out⟩
set_option maxHeartbeats 1600000 in
theorem appendBody_2 (s : Seats) (l : LsaZ) (base g cap m : Nat) (ys : List Int) (w0 w : World) (hown : Owns w base g cap ys) (hm : m = ys.length) (hl : ys.length ≤ 1000000) (hH : Held w0 s l) (hb0 : Below base w0 w) (hN0 : w0.heap.size ≤ base) (hf : Mid l) (hk : l.head.kind = 2) :
    Calls Try.prog 88 #[.slice (some ⟨g, 0, none⟩) m cap, .agg (lsaA s l)] w fun e w' => ∃ g' cp, e = .returned (.slice (some ⟨g', 0, none⟩) (ys ++ bodyZ l).length cp) ∧ Owns w' base g' cp (ys ++ bodyZ l) ∧ Below base w w' := by
  have HE : Hid (bodyZ l = be4 (maskN (clampN l.bits)) ++ l.routers.flatMap be4) := by show _ = _; unfold bodyZ; simp [hk]
  have HX : Hid (Box _ w.heap.size s l) := box_new w s l
  have HN : w.heap.size ≠ g := by have := hown.lt; omega
  have HL : Hid (w.heap.size < (w.alloc (.cells (lsaA s l) 39)).heap.size) := by show _ < _; simp
  have HO : Hid (Owns (w.alloc (.cells (lsaA s l) 39)) base g cap ys) := hown.alloc _
  have HB : Hid (Below base w (w.alloc (.cells (lsaA s l) 39))) := (Below.refl _ _).alloc hown.more _
  have HH : Hid (Held w0 s l) := hH
  have HZ : Hid (Below base w0 w) := hb0
  have HM : w0.heap.size ≤ base := hN0
  obtain ⟨f1, f2, f3⟩ := hf
  obtain ⟨la, lc, ra, rc, va, vc⟩ := s
  have e1 : (l.head.kind == 1) = false := by simp [hk]
  have e2 : (l.head.kind == 2) = true := by simp [hk]
  clear hown hH hb0 hN0 hk
  subst hm
  go_enter Try.func88, Try.ntmps88
  go_upto_region 1 with fail
  generalize (w.alloc (.cells (lsaA ⟨la, lc, ra, rc, va, vc⟩ l) 39)) = W at *
  have HG : Hid (Grew W W g g) := Grew.refl _ _
  have hX := HX.out.grew HG.out HL.out HN
  obtain ⟨c0, c1, c2, c3, c4, c5, c6, c7, c8, c9, c10, c11⟩ := hX
  go_wp2_with fail
  refine (mask_any _ _).mono ?_
  rintro e wq ⟨rfl, hq⟩
  subst wq
  go_wp2_with fail
  refine (wappend4 _ base _ _ _ _ _ HO.out rfl (by omega) HO.out.more).mono ?_
  rintro e w2 ⟨g2, cp2, rfl, ho, hb, hg⟩
  replace HO : Hid (Owns w2 base g2 cp2 _) := ho
  replace HB : Hid (Below base w w2) := HB.out.trans hb
  replace HG : Hid (Grew W w2 g g2) := HG.out.trans hg
  clear ho hb hg c0 c1 c2 c3 c4 c5 c6 c7 c8 c9 c10 c11
  have hX := HX.out.grew HG.out HL.out HN
  obtain ⟨c0, c1, c2, c3, c4, c5, c6, c7, c8, c9, c10, c11⟩ := hX
  go_wp2_with fail
  clear c0 c1 c2 c3 c4 c5 c6 c7 c8 c9 c10 c11 HX HG HL HN
  go_loopw [0, 48] (fun v t wr => ∃ (k : Nat) (zs : List Int) (n gk cp : Nat), v = .slice (some ⟨gk, 0, none⟩) n cp ∧ t = .int .i64 k ∧ k ≤ l.routers.length ∧ Hid (n = zs.length) ∧ Hid (zs = (ys ++ be4 (maskN (clampN l.bits))) ++ (l.routers.take k).flatMap be4) ∧ Hid (zs.length ≤ 1000020 + k * 12) ∧ Hid (Owns wr base gk cp zs) ∧ Hid (Below base w wr)) (fun _ t _ => l.routers.length - (intOf t).toNat)
  case atStart => exact ⟨0, _, _, _, _, rfl, rfl, by omega, by show _ = _; simp [be4], by show _ = _; simp, by show _ ≤ _; simp [be4]; omega, HO.out, HB.out⟩
  case round =>
    obtain ⟨k, zs, n, gk, cp, rfl, rfl, hk, hn, hz, hzl, ho, hb⟩ := hrel
    by_cases hlt : k < l.routers.length
    · have hLs := (HH.out.belowN (below_more HZ.out hb.out (Nat.le_refl _)) HM).hr
      dsimp only at hLs
      obtain ⟨b, off, rfl, c0⟩ := Ints.cells hLs k hlt
      clear hLs
      go_wp2_with fail
      refine (wappend4 _ base gk cp n zs _ ho.out hn.out (by have := hzl.out; omega) ho.out.more).mono ?_
      rintro e wk ⟨g', cp', rfl, hok, hbk, _⟩
      have HOk : Hid (Owns wk base g' cp' _) := hok
      have HBk : Hid (Below base w wk) := hb.out.trans hbk
      have HNk : Hid (n + 4 = (zs ++ be4 l.routers[k]).length) := by show _ = _; rw [List.length_append, ← hn.out] <;> rfl
      have HZk : Hid (zs ++ be4 l.routers[k] = (ys ++ be4 (maskN (clampN l.bits))) ++ (l.routers.take (k + 1)).flatMap be4) := by show _ = _; rw [hz.out, take_flat be4 l.routers k hlt]; simp
      have HLk : Hid ((zs ++ be4 l.routers[k]).length ≤ 1000020 + (k + 1) * 12) := by show _ ≤ _; have := hzl.out; have := hn.out; have := HNk.out; omega
      clear hok hbk ho hb hn hz hzl
      go_wp2
      go_roundw
      case rel => exact ⟨k + 1, _, _, g', cp', rfl, by go_num, by omega, HNk.out, HZk.out, HLk.out, HOk.out, HBk.out⟩
      case measure => simp [intOf]; omega
    · obtain rfl : k = l.routers.length := by omega
      have hzz : zs = ys ++ bodyZ l := by have := hz.out; rw [List.take_length] at this; rw [this, HE.out] <;> simp
      have HO2 : Hid (Owns wr base gk cp (ys ++ bodyZ l)) := hzz ▸ ho.out
      have hnn : n = (ys ++ bodyZ l).length := by rw [hn.out, hzz]
      have HN2 : Hid (n = (ys ++ bodyZ l).length) := hnn
      clear hzz hz ho hn hnn hzl
      go_wp2
      go_ret
      exact ⟨_, _, ret_slice HN2.out, HO2.out, hb.out⟩
set_option maxHeartbeats 1600000 in
theorem appendBody_6 (s : Seats) (l : LsaZ) (base g cap m : Nat) (ys : List Int) (w0 w : World) (hown : Owns w base g cap ys) (hm : m = ys.length) (hl : ys.length ≤ 1000000) (hH : Held w0 s l) (hb0 : Below base w0 w) (hN0 : w0.heap.size ≤ base) (hf : Mid l) (hk : l.head.kind = 6) :
    Calls Try.prog 88 #[.slice (some ⟨g, 0, none⟩) m cap, .agg (lsaA s l)] w fun e w' => ∃ g' cp, e = .returned (.slice (some ⟨g', 0, none⟩) (ys ++ bodyZ l).length cp) ∧ Owns w' base g' cp (ys ++ bodyZ l) ∧ Below base w w' := by
  have HE : Hid (bodyZ l = l.verts.flatMap vertZ) := by show _ = _; unfold bodyZ; simp [hk]
  have HX : Hid (Box _ w.heap.size s l) := box_new w s l
  have HN : w.heap.size ≠ g := by have := hown.lt; omega
  have HL : Hid (w.heap.size < (w.alloc (.cells (lsaA s l) 39)).heap.size) := by show _ < _; simp
  have HO : Hid (Owns (w.alloc (.cells (lsaA s l) 39)) base g cap ys) := hown.alloc _
  have HB : Hid (Below base w (w.alloc (.cells (lsaA s l) 39))) := (Below.refl _ _).alloc hown.more _
  have HH : Hid (Held w0 s l) := hH
  have HZ : Hid (Below base w0 w) := hb0
  have HM : w0.heap.size ≤ base := hN0
  obtain ⟨f1, f2, f3⟩ := hf
  obtain ⟨la, lc, ra, rc, va, vc⟩ := s
  have e1 : (l.head.kind == 1) = false := by simp [hk]
  have e2 : (l.head.kind == 2) = false := by simp [hk]
  have e6 : (l.head.kind == 6) = true := by simp [hk]
  clear hown hH hb0 hN0 hk
  subst hm
  go_enter Try.func88, Try.ntmps88
  go_upto_region 1 with fail
  generalize (w.alloc (.cells (lsaA ⟨la, lc, ra, rc, va, vc⟩ l) 39)) = W at *
  have HG : Hid (Grew W W g g) := Grew.refl _ _
  have hX := HX.out.grew HG.out HL.out HN
  obtain ⟨c0, c1, c2, c3, c4, c5, c6, c7, c8, c9, c10, c11⟩ := hX
  go_wp2_with fail
  clear c0 c1 c2 c3 c4 c5 c6 c7 c8 c9 c10 c11 HX HG HL HN
  go_loopw [0, 61] (fun v t wr => ∃ (k : Nat) (zs : List Int) (n gk cp : Nat), v = .slice (some ⟨gk, 0, none⟩) n cp ∧ t = .int .i64 k ∧ k ≤ l.verts.length ∧ Hid (n = zs.length) ∧ Hid (zs = ys ++ (l.verts.take k).flatMap vertZ) ∧ Hid (zs.length ≤ 1000020 + k * 12) ∧ Hid (Owns wr base gk cp zs) ∧ Hid (Below base w wr)) (fun _ t _ => l.verts.length - (intOf t).toNat)
  case atStart => exact ⟨0, _, _, _, _, rfl, rfl, by omega, rfl, by show _ = _; simp, by show _ ≤ _; omega, HO.out, HB.out⟩
  case round =>
    obtain ⟨k, zs, n, gk, cp, rfl, rfl, hk, hn, hz, hzl, ho, hb⟩ := hrel
    by_cases hlt : k < l.verts.length
    · have hLs := (HH.out.belowN (below_more HZ.out hb.out (Nat.le_refl _)) HM).hv
      dsimp only at hLs
      obtain ⟨b, off, rfl, c0, c1⟩ := Verts.cells hLs k hlt
      clear hLs
      have hV1 : (wr.alloc (.cells #[.int .i64 l.verts[k].kind, .int .i64 l.verts[k].id] 64)).cell? ⟨wr.heap.size, 1, none⟩ = some (.int .i64 l.verts[k].id) := by simp
      have HV1 : Hid (_ = _) := hV1
      have HGN : wr.heap.size ≠ gk := by have := ho.out.lt; omega
      have HVL : Hid (wr.heap.size < (wr.alloc (.cells #[.int .i64 l.verts[k].kind, .int .i64 l.verts[k].id] 64)).heap.size) := by show _ < _; simp
      clear hV1
      go_wp2_with fail
      refine (wappend4 _ base gk cp n zs _ (ho.out.alloc _) hn.out (by have := hzl.out; omega) (ho.out.alloc _).more).mono ?_
      rintro e wj ⟨gj, cpj, rfl, hoj, hbj, hgj⟩
      have hvj : wj.cell? ⟨wr.heap.size, 1, none⟩ = some (.int .i64 l.verts[k].id) := by rw [hgj.cell HVL.out HGN]; exact HV1.out
      have HBj : Hid (Below base w wj) := (hb.out.alloc ho.out.more _).trans hbj
      have HOj : Hid (Owns wj base gj cpj _) := hoj
      clear hoj hbj hgj HV1 HVL
      go_wp2_with fail
      refine (wappend4 _ base gj cpj (n + 4) (zs ++ be4 l.verts[k].kind) _ HOj.out (by rw [List.length_append, ← hn.out] <;> rfl) (by have := hzl.out; simp [be4]; omega) HOj.out.more).mono ?_
      rintro e wk ⟨g', cp', rfl, hok, hbk, _⟩
      rw [List.append_assoc] at hok
      clear hvj
      have HOk : Hid (Owns wk base g' cp' _) := hok
      have HBk : Hid (Below base w wk) := HBj.out.trans hbk
      have HNk : Hid (n + 4 + 4 = (zs ++ vertZ l.verts[k]).length) := by show _ = _; rw [List.length_append, ← hn.out] <;> rfl
      have HZk : Hid (zs ++ vertZ l.verts[k] = ys ++ (l.verts.take (k + 1)).flatMap vertZ) := by show _ = _; rw [hz.out, take_flat vertZ l.verts k hlt]; simp
      have HLk : Hid ((zs ++ vertZ l.verts[k]).length ≤ 1000020 + (k + 1) * 12) := by show _ ≤ _; have := hzl.out; have := hn.out; have := HNk.out; omega
      clear hok hbk ho hb hn hz hzl
      go_wp2
      go_roundw
      case rel => exact ⟨k + 1, _, _, g', cp', rfl, by go_num, by omega, HNk.out, HZk.out, HLk.out, HOk.out, HBk.out⟩
      case measure => simp [intOf]; omega
    · obtain rfl : k = l.verts.length := by omega
      have hzz : zs = ys ++ bodyZ l := by have := hz.out; rw [List.take_length] at this; rw [this, HE.out] <;> simp
      have HO2 : Hid (Owns wr base gk cp (ys ++ bodyZ l)) := hzz ▸ ho.out
      have hnn : n = (ys ++ bodyZ l).length := by rw [hn.out, hzz]
      have HN2 : Hid (n = (ys ++ bodyZ l).length) := hnn
      clear hzz hz ho hn hnn hzl
      go_wp2
      go_ret
      exact ⟨_, _, ret_slice HN2.out, HO2.out, hb.out⟩
set_option maxHeartbeats 1600000 in
theorem appendBody_none (s : Seats) (l : LsaZ) (base g cap m : Nat) (ys : List Int) (w : World) (hown : Owns w base g cap ys) (hm : m = ys.length) (h1 : ¬ l.head.kind = 1) (h2 : ¬ l.head.kind = 2) (h6 : ¬ l.head.kind = 6) :
    Calls Try.prog 88 #[.slice (some ⟨g, 0, none⟩) m cap, .agg (lsaA s l)] w fun e w' => ∃ g' cp, e = .returned (.slice (some ⟨g', 0, none⟩) (ys ++ bodyZ l).length cp) ∧ Owns w' base g' cp (ys ++ bodyZ l) ∧ Below base w w' := by
  have HE : bodyZ l = [] := by unfold bodyZ; simp [h1, h2, h6]
  rw [HE, List.append_nil, ← hm]
  have HO : Hid (Owns (w.alloc (.cells (lsaA s l) 39)) base g cap ys) := hown.alloc _
  have HB : Hid (Below base w (w.alloc (.cells (lsaA s l) 39))) := (Below.refl _ _).alloc hown.more _
  have e1 : (l.head.kind == 1) = false := by simp [h1]
  have e2 : (l.head.kind == 2) = false := by simp [h2]
  have e6 : (l.head.kind == 6) = false := by simp [h6]
  clear h1 h2 h6 hown HE hm
  go_enter Try.func88, Try.ntmps88
  go_wp2
  go_ret
  exact ⟨_, _, rfl, HO.out, HB.out⟩
theorem appendBody_any (s : Seats) (l : LsaZ) (base g cap m : Nat) (ys : List Int) (w0 w : World) (hown : Owns w base g cap ys) (hm : m = ys.length) (hl : ys.length ≤ 1000000) (hH : Held w0 s l) (hb0 : Below base w0 w) (hN0 : w0.heap.size ≤ base) (hf : Mid l) :
    Calls Try.prog 88 #[.slice (some ⟨g, 0, none⟩) m cap, .agg (lsaA s l)] w fun e w' => ∃ g' cp, e = .returned (.slice (some ⟨g', 0, none⟩) (ys ++ bodyZ l).length cp) ∧ Owns w' base g' cp (ys ++ bodyZ l) ∧ Below base w w' := by
  by_cases h1 : l.head.kind = 1
  · exact appendBody_1 s l base g cap m ys w0 w hown hm hl hH hb0 hN0 hf h1
  by_cases h2 : l.head.kind = 2
  · exact appendBody_2 s l base g cap m ys w0 w hown hm hl hH hb0 hN0 hf h2
  by_cases h6 : l.head.kind = 6
  · exact appendBody_6 s l base g cap m ys w0 w hown hm hl hH hb0 hN0 hf h6
  exact appendBody_none s l base g cap m ys w hown hm h1 h2 h6
end Go.Proofs.Ytmcemhkhgccojaa
