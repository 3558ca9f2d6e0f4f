/- Whether two advertisements are one; a copy: as the document says it. -/
import Derived.Test.YtmcemhkhgccojaaS5D4
import Derived.Test.YtmcemhkhgccojaaS5W10
namespace Go.Proofs.Ytmcemhkhgccojaa
open Go.RowKit
set_option linter.unusedVariables false

theorem bodyB_self (l : LsaZ) : bodyB l l = true := by unfold bodyB; simp [eqLinksB_t, eqVertsB_t]
set_option maxHeartbeats 1600000 in
theorem dSame_eq (s t : Seats) (l : LsaZ) (w : World) (ha : Held w s l) (hb : Held w t l) (hf : Fits l) :
    Calls Try.prog 15 #[.agg (lsaA s l), .agg (lsaA t l)] w fun e w' => e = .returned (.bool true) ∧ Below w.heap.size w w' := by
  have HX : Hid (Box ((w.alloc (.cells (lsaA s l) 39)).alloc (.cells (lsaA t l) 39)) w.heap.size s l) := (box_new w s l).below ((Below.refl _ _).alloc (Nat.le_refl _) _) (by simp)
  have HY : Hid (Box ((w.alloc (.cells (lsaA s l) 39)).alloc (.cells (lsaA t l) 39)) (w.heap.size + 1) t l) := by
    have := box_new (w.alloc (.cells (lsaA s l) 39)) t l
    rw [size_new] at this; exact this
  have HB : Hid (Below w.heap.size w ((w.alloc (.cells (lsaA s l) 39)).alloc (.cells (lsaA t l) 39))) := (below_new' _ _).alloc (by simp) _
  have hbd := fun W h1 h2 => dBody_any s t l l W h1 h2 hf hf
  rw [bodyB_self] at hbd
  have HA : Hid (Held w s l) := ha
  have HC : Hid (Held w t l) := hb
  clear ha hb hf
  go_enter Try.func15, Try.ntmps15
  go_upto_region 1 with fail
  generalize (w.alloc (.cells (lsaA s l) 39)).alloc (.cells (lsaA t l) 39) = W at *
  obtain ⟨c0, c1, c2, c3, c4, c5, c6, c7, c8, c9, c10, c11⟩ := HX.out
  obtain ⟨b0, b1, b2, b3, b4, b5, b6, b7, b8, b9, b10, b11⟩ := HY.out
  go_wp2_with fail
  refine (hbd _ (HA.out.below HB.out) (HC.out.below HB.out)).mono ?_
  rintro e w2 ⟨rfl, hb⟩
  replace HB : Hid (Below w.heap.size w w2) := below_more HB.out hb HB.out.size
  clear hb hbd
  go_wp2
  go_ret
  exact ⟨rfl, HB.out⟩
/-- 'append([]T{}, x...)': an empty row of the call's own, just made, appended to. -/
theorem wp_append_made {ops : Array Oper} {rest : List Oper} {o : Oper} {a : Act} {Q : Exit → Act → World → Prop} (W : World) (hgd : o.guard = none) (s x : Operand) (t : TypeId)
    (ho : o.op = .call { callee := .builtin .append, args := #[s, x], argTypes := #[t, t] }) (e : TypeId) (i : TypeInfo) (z : Value) (size bytes : Nat) (ht : Try.prog.underlying t = some (.slice e)) (hi : Try.prog.info? e = some i) (hz : i.zero = some z)
    (hsize : i.size = size) (hby : i.bytes = bytes) (hzs : z.cells.size = size) (hsz : 0 < size)
    (hs : a.eval s = .slice (some ⟨W.heap.size, 0, none⟩) 0 0) (ax : Option Addr) (m c : Nat) (hx : a.eval x = .slice ax m c) (vs : List Value) (hl : vs.length = m * size) (hL : Lies W ax vs) (h1 : ∀ u ∈ vs, u.oneCell' = true) (hnil : ax = none → c = 0) (h63 : m ≤ maxLen) (hb : m * bytes ≤ 140737488355328)
    (h : ∀ a' cp w', Lies w' a' vs → Below W.heap.size W w' → (a' = none → cp = 0) → Far W.heap.size a' → wpList Try.prog ops Q rest (a.put o.dst (.slice a' m cp)) w') : wpList Try.prog ops Q (o :: rest) a (W.alloc (.cells #[] e)) := by
  have hown : (W.alloc (.cells #[] e)).ownsRow W.heap.size e size (.slice (some ⟨W.heap.size, 0, none⟩) 0 0) 0 [] := World.ownsRow_made W #[] 0 (Nat.le_refl _) (by unfold maxLen; omega) (by simp)
  have hW : Below W.heap.size W (W.alloc (.cells #[] e)) := below_new' _ _
  cases ax with
  | none =>
    have hvs : vs = [] := by
      rcases hL with e' | ⟨_, _, e', _⟩
      · exact e'
      · cases e'
    subst hvs
    have hm : m = 0 := by rcases Nat.mul_eq_zero.1 (show m * size = 0 by rw [← hl]; rfl) with h | h <;> omega
    have hc0 := hnil rfl
    subst hc0 hm
    refine wpList_append_own_none hgd s x t ho W.heap.size e i size ht hi _ 0 _ hs hown hx ?_
    exact h _ 0 _ (.inl rfl) hW (fun h => by cases h) (fun x hx => by cases hx; exact Nat.le_refl _)
  | some ad =>
    refine wpList_append_own (W.alloc (.cells #[] e)) hgd s x t ho W.heap.size e i z size bytes ht hi hz hsize hby hzs hsz _ 0 [] hs hown ad m c vs hx hl (hL.below hW).at h1 (by omega) (by rw [Nat.zero_add]; exact hb) hW.size ?_
    intro v' w' hown' hgrow hnil'
    rw [Nat.zero_add, List.nil_append] at hown'
    have hB : Below W.heap.size W w' := hW.trans ((Below.refl _ _).grown hgrow hW.size (fun k hk => (World.ownsRow.lt hown k hk).1))
    rcases hown'.2 with ⟨h', h0⟩ | ⟨g', cap', cur, h', hfar, _, _, _⟩
    · subst h' h0
      have hvs : vs = [] := List.eq_nil_of_length_eq_zero (by rw [hl]; simp)
      subst hvs
      exact h none 0 w' (.inl rfl) hB (fun _ => rfl) (fun _ hx => by cases hx)
    · subst h'
      exact h _ cap' w' (owns_lies hown') hB (fun h => by cases h) (fun x hx => by cases hx; exact hfar)
/-- How Copy ends. -/
def CopyEnd (w : World) (l : LsaZ) (e : Ending) (w' : World) : Prop := ∃ s', e = .returned (.agg (lsaA s' l)) ∧ Held w' s' l ∧ Nils s' ∧ Below w.heap.size w w' ∧ Far w.heap.size s'.la ∧ Far w.heap.size s'.ra ∧ Far w.heap.size s'.va
set_option maxHeartbeats 3200000 in
set_option maxRecDepth 20000 in
theorem dCopy_any (s : Seats) (l : LsaZ) (w : World) (hH : Held w s l) (hf : Mid l) (hN : Nils s) :
    Calls Try.prog 26 #[.agg (lsaA s l)] w (CopyEnd w l) := by
  have HV : Hid (Var ((w.alloc (.cells (lsaA s l) 39)).alloc (.cells zero12.toArray 39)) w.heap.size [.int .i64 l.head.age, .int .i64 l.head.kind, .int .i64 l.head.id, .int .i64 l.head.adv, .int .i64 l.head.seq, .int .i64 l.head.sum, .int .i64 l.head.len, .int .i64 l.flags, .slice s.la l.links.length s.lc, .int .i64 l.bits, .slice s.ra l.routers.length s.rc, .slice s.va l.verts.length s.vc]) := (var_new w (lsaL s l) _).alloc _
  have HR : Hid (Var ((w.alloc (.cells (lsaA s l) 39)).alloc (.cells zero12.toArray 39)) (w.heap.size + 1) zero12) := by
    have := var_new (w.alloc (.cells (lsaA s l) 39)) zero12 39
    rw [size_new] at this; exact this
  have HB : Hid (Below w.heap.size w ((w.alloc (.cells (lsaA s l) 39)).alloc (.cells zero12.toArray 39))) := (below_new' _ _).alloc (by simp) _
  have HH : Hid (Held w s l) := hH
  have HMI : Hid (Mid l) := hf
  have HNI : Hid (Nils s) := hN
  clear hH hf hN
  go_enter Try.func26, Try.ntmps26
  go_upto_region 1 with fail
  generalize ((w.alloc (.cells (lsaA s l) 39)).alloc (.cells zero12.toArray 39)) = U0 at *
  obtain ⟨i, hi, hz0, hz1, hz2⟩ := info_parts info_link
  have c := (HV.out.alloc (.cells #[] 93)).cell 8 rfl
  go_wp2_with (at_builtin; go_must (refine wp_append_made U0 rfl _ _ 35 rfl 93 i (.agg #[.int .i64 0, .int .i64 0, .int .i64 0, .int .i64 0]) 4 32 Try.underlying35 hi hz0 hz1 hz2 rfl (by decide) rfl s.la _ s.lc rfl (cellsOf linkC l.links) (len_links _) (HH.out.below HB.out).hl (one_links _) HNI.out.hl (by have := HMI.out.hl; unfold maxLen; omega) (by have := HMI.out.hl; omega) ?_))
  intro a0 cp0 w10 hL hb hnl hfar
  have HA0 : Hid (Far (w.heap.size + 2) a0) := hfar.mono HR.out.lt
  replace HV : Hid (Var w10 w.heap.size [.int .i64 l.head.age, .int .i64 l.head.kind, .int .i64 l.head.id, .int .i64 l.head.adv, .int .i64 l.head.seq, .int .i64 l.head.sum, .int .i64 l.head.len, .int .i64 l.flags, .slice s.la l.links.length s.lc, .int .i64 l.bits, .slice s.ra l.routers.length s.rc, .slice s.va l.verts.length s.vc]) := HV.out.below hb HV.out.lt
  replace HR : Hid (Var w10 (w.heap.size + 1) zero12) := HR.out.below hb HR.out.lt
  replace HB : Hid (Below w.heap.size w w10) := below_more HB.out hb HB.out.size
  have HL0 : Hid (Lies w10 a0 (cellsOf linkC l.links)) := hL
  have HQ0 : Hid (a0 = none → cp0 = 0) := hnl
  clear hL hnl hb hfar c hi hz0 hz1 hz2 i
  have c := HV.out.cell 8 rfl
  have z := HV.out.frozen 8
  replace HV : Hid (Var (w10.setCell ⟨w.heap.size, 8, none⟩ (.slice a0 l.links.length cp0)) w.heap.size [.int .i64 l.head.age, .int .i64 l.head.kind, .int .i64 l.head.id, .int .i64 l.head.adv, .int .i64 l.head.seq, .int .i64 l.head.sum, .int .i64 l.head.len, .int .i64 l.flags, .slice a0 l.links.length cp0, .int .i64 l.bits, .slice s.ra l.routers.length s.rc, .slice s.va l.verts.length s.vc]) := HV.out.set 8 _
  replace HR : Hid (Var (w10.setCell ⟨w.heap.size, 8, none⟩ (.slice a0 l.links.length cp0)) (w.heap.size + 1) zero12) := HR.out.other (by omega) _ _
  replace HB : Hid (Below w.heap.size w (w10.setCell ⟨w.heap.size, 8, none⟩ (.slice a0 l.links.length cp0))) := HB.out.setCell (p := ⟨w.heap.size, 8, none⟩) (Nat.le_refl _) _
  replace HL0 : Hid (Lies (w10.setCell ⟨w.heap.size, 8, none⟩ (.slice a0 l.links.length cp0)) a0 _) := HL0.out.set (p := ⟨w.heap.size, 8, none⟩) HA0.out (by show w.heap.size < w.heap.size + 2; omega) _
  go_upto_region 2 with fail
  generalize w10.setCell ⟨w.heap.size, 8, none⟩ (.slice a0 l.links.length cp0) = U1 at *
  clear c z
  obtain ⟨i, hi, hz0, hz1, hz2⟩ := info_parts info_int
  have c := (HV.out.alloc (.cells #[] 3)).cell 10 rfl
  go_wp2_with (at_builtin; go_must (refine wp_append_made U1 rfl _ _ 36 rfl 3 i (.int .i64 0) 1 8 Try.underlying36 hi hz0 hz1 hz2 rfl (by decide) rfl s.ra _ s.rc rfl (cellsOf intC l.routers) (len_ints _) (HH.out.below HB.out).hr (one_ints _) HNI.out.hr (by have := HMI.out.hr; unfold maxLen; omega) (by have := HMI.out.hr; omega) ?_))
  intro a1 cp1 w11 hL hb hnl hfar
  have HA1 : Hid (Far (w.heap.size + 2) a1) := hfar.mono HR.out.lt
  replace HV : Hid (Var w11 w.heap.size [.int .i64 l.head.age, .int .i64 l.head.kind, .int .i64 l.head.id, .int .i64 l.head.adv, .int .i64 l.head.seq, .int .i64 l.head.sum, .int .i64 l.head.len, .int .i64 l.flags, .slice a0 l.links.length cp0, .int .i64 l.bits, .slice s.ra l.routers.length s.rc, .slice s.va l.verts.length s.vc]) := HV.out.below hb HV.out.lt
  replace HR : Hid (Var w11 (w.heap.size + 1) zero12) := HR.out.below hb HR.out.lt
  replace HB : Hid (Below w.heap.size w w11) := below_more HB.out hb HB.out.size
  replace HL0 : Hid (Lies w11 a0 _) := HL0.out.below hb
  have HL1 : Hid (Lies w11 a1 (cellsOf intC l.routers)) := hL
  have HQ1 : Hid (a1 = none → cp1 = 0) := hnl
  clear hL hnl hb hfar c hi hz0 hz1 hz2 i
  have c := HV.out.cell 10 rfl
  have z := HV.out.frozen 10
  replace HV : Hid (Var (w11.setCell ⟨w.heap.size, 10, none⟩ (.slice a1 l.routers.length cp1)) w.heap.size [.int .i64 l.head.age, .int .i64 l.head.kind, .int .i64 l.head.id, .int .i64 l.head.adv, .int .i64 l.head.seq, .int .i64 l.head.sum, .int .i64 l.head.len, .int .i64 l.flags, .slice a0 l.links.length cp0, .int .i64 l.bits, .slice a1 l.routers.length cp1, .slice s.va l.verts.length s.vc]) := HV.out.set 10 _
  replace HR : Hid (Var (w11.setCell ⟨w.heap.size, 10, none⟩ (.slice a1 l.routers.length cp1)) (w.heap.size + 1) zero12) := HR.out.other (by omega) _ _
  replace HB : Hid (Below w.heap.size w (w11.setCell ⟨w.heap.size, 10, none⟩ (.slice a1 l.routers.length cp1))) := HB.out.setCell (p := ⟨w.heap.size, 10, none⟩) (Nat.le_refl _) _
  replace HL0 : Hid (Lies (w11.setCell ⟨w.heap.size, 10, none⟩ (.slice a1 l.routers.length cp1)) a0 _) := HL0.out.set (p := ⟨w.heap.size, 10, none⟩) HA0.out (by show w.heap.size < w.heap.size + 2; omega) _
  replace HL1 : Hid (Lies (w11.setCell ⟨w.heap.size, 10, none⟩ (.slice a1 l.routers.length cp1)) a1 _) := HL1.out.set (p := ⟨w.heap.size, 10, none⟩) HA1.out (by show w.heap.size < w.heap.size + 2; omega) _
  go_upto_region 3 with fail
  generalize w11.setCell ⟨w.heap.size, 10, none⟩ (.slice a1 l.routers.length cp1) = U2 at *
  clear c z
  obtain ⟨i, hi, hz0, hz1, hz2⟩ := info_parts info_vert
  have c := (HV.out.alloc (.cells #[] 64)).cell 11 rfl
  go_wp2_with (at_builtin; go_must (refine wp_append_made U2 rfl _ _ 37 rfl 64 i (.agg #[.int .i64 0, .int .i64 0]) 2 16 Try.underlying37 hi hz0 hz1 hz2 rfl (by decide) rfl s.va _ s.vc rfl (cellsOf vertC l.verts) (len_verts _) (HH.out.below HB.out).hv (one_verts _) HNI.out.hv (by have := HMI.out.hv; unfold maxLen; omega) (by have := HMI.out.hv; omega) ?_))
  intro a2 cp2 w12 hL hb hnl hfar
  have HA2 : Hid (Far (w.heap.size + 2) a2) := hfar.mono HR.out.lt
  replace HV : Hid (Var w12 w.heap.size [.int .i64 l.head.age, .int .i64 l.head.kind, .int .i64 l.head.id, .int .i64 l.head.adv, .int .i64 l.head.seq, .int .i64 l.head.sum, .int .i64 l.head.len, .int .i64 l.flags, .slice a0 l.links.length cp0, .int .i64 l.bits, .slice a1 l.routers.length cp1, .slice s.va l.verts.length s.vc]) := HV.out.below hb HV.out.lt
  replace HR : Hid (Var w12 (w.heap.size + 1) zero12) := HR.out.below hb HR.out.lt
  replace HB : Hid (Below w.heap.size w w12) := below_more HB.out hb HB.out.size
  replace HL0 : Hid (Lies w12 a0 _) := HL0.out.below hb
  replace HL1 : Hid (Lies w12 a1 _) := HL1.out.below hb
  have HL2 : Hid (Lies w12 a2 (cellsOf vertC l.verts)) := hL
  have HQ2 : Hid (a2 = none → cp2 = 0) := hnl
  clear hL hnl hb hfar c hi hz0 hz1 hz2 i
  have c := HV.out.cell 11 rfl
  have z := HV.out.frozen 11
  replace HV : Hid (Var (w12.setCell ⟨w.heap.size, 11, none⟩ (.slice a2 l.verts.length cp2)) w.heap.size [.int .i64 l.head.age, .int .i64 l.head.kind, .int .i64 l.head.id, .int .i64 l.head.adv, .int .i64 l.head.seq, .int .i64 l.head.sum, .int .i64 l.head.len, .int .i64 l.flags, .slice a0 l.links.length cp0, .int .i64 l.bits, .slice a1 l.routers.length cp1, .slice a2 l.verts.length cp2]) := HV.out.set 11 _
  replace HR : Hid (Var (w12.setCell ⟨w.heap.size, 11, none⟩ (.slice a2 l.verts.length cp2)) (w.heap.size + 1) zero12) := HR.out.other (by omega) _ _
  replace HB : Hid (Below w.heap.size w (w12.setCell ⟨w.heap.size, 11, none⟩ (.slice a2 l.verts.length cp2))) := HB.out.setCell (p := ⟨w.heap.size, 11, none⟩) (Nat.le_refl _) _
  replace HL0 : Hid (Lies (w12.setCell ⟨w.heap.size, 11, none⟩ (.slice a2 l.verts.length cp2)) a0 _) := HL0.out.set (p := ⟨w.heap.size, 11, none⟩) HA0.out (by show w.heap.size < w.heap.size + 2; omega) _
  replace HL1 : Hid (Lies (w12.setCell ⟨w.heap.size, 11, none⟩ (.slice a2 l.verts.length cp2)) a1 _) := HL1.out.set (p := ⟨w.heap.size, 11, none⟩) HA1.out (by show w.heap.size < w.heap.size + 2; omega) _
  replace HL2 : Hid (Lies (w12.setCell ⟨w.heap.size, 11, none⟩ (.slice a2 l.verts.length cp2)) a2 _) := HL2.out.set (p := ⟨w.heap.size, 11, none⟩) HA2.out (by show w.heap.size < w.heap.size + 2; omega) _
  go_upto_region 4 with fail
  generalize w12.setCell ⟨w.heap.size, 11, none⟩ (.slice a2 l.verts.length cp2) = U3 at *
  clear c z
  have K3 : Hid (Var ((((((((((((U3.setCell ⟨w.heap.size + 1, 0, none⟩ (.int .i64 l.head.age)).setCell ⟨w.heap.size + 1, 1, none⟩ (.int .i64 l.head.kind)).setCell ⟨w.heap.size + 1, 2, none⟩ (.int .i64 l.head.id)).setCell ⟨w.heap.size + 1, 3, none⟩ (.int .i64 l.head.adv)).setCell ⟨w.heap.size + 1, 4, none⟩ (.int .i64 l.head.seq)).setCell ⟨w.heap.size + 1, 5, none⟩ (.int .i64 l.head.sum)).setCell ⟨w.heap.size + 1, 6, none⟩ (.int .i64 l.head.len)).setCell ⟨w.heap.size + 1, 7, none⟩ (.int .i64 l.flags)).setCell ⟨w.heap.size + 1, 8, none⟩ (.slice a0 l.links.length cp0)).setCell ⟨w.heap.size + 1, 9, none⟩ (.int .i64 l.bits)).setCell ⟨w.heap.size + 1, 10, none⟩ (.slice a1 l.routers.length cp1)).setCell ⟨w.heap.size + 1, 11, none⟩ (.slice a2 l.verts.length cp2)) (w.heap.size + 1) [.int .i64 l.head.age, .int .i64 l.head.kind, .int .i64 l.head.id, .int .i64 l.head.adv, .int .i64 l.head.seq, .int .i64 l.head.sum, .int .i64 l.head.len, .int .i64 l.flags, .slice a0 l.links.length cp0, .int .i64 l.bits, .slice a1 l.routers.length cp1, .slice a2 l.verts.length cp2]) := HR.out.put12 (.int .i64 l.head.age) (.int .i64 l.head.kind) (.int .i64 l.head.id) (.int .i64 l.head.adv) (.int .i64 l.head.seq) (.int .i64 l.head.sum) (.int .i64 l.head.len) (.int .i64 l.flags) (.slice a0 l.links.length cp0) (.int .i64 l.bits) (.slice a1 l.routers.length cp1) (.slice a2 l.verts.length cp2)
  have K2 : Hid (Below w.heap.size w ((((((((((((U3.setCell ⟨w.heap.size + 1, 0, none⟩ (.int .i64 l.head.age)).setCell ⟨w.heap.size + 1, 1, none⟩ (.int .i64 l.head.kind)).setCell ⟨w.heap.size + 1, 2, none⟩ (.int .i64 l.head.id)).setCell ⟨w.heap.size + 1, 3, none⟩ (.int .i64 l.head.adv)).setCell ⟨w.heap.size + 1, 4, none⟩ (.int .i64 l.head.seq)).setCell ⟨w.heap.size + 1, 5, none⟩ (.int .i64 l.head.sum)).setCell ⟨w.heap.size + 1, 6, none⟩ (.int .i64 l.head.len)).setCell ⟨w.heap.size + 1, 7, none⟩ (.int .i64 l.flags)).setCell ⟨w.heap.size + 1, 8, none⟩ (.slice a0 l.links.length cp0)).setCell ⟨w.heap.size + 1, 9, none⟩ (.int .i64 l.bits)).setCell ⟨w.heap.size + 1, 10, none⟩ (.slice a1 l.routers.length cp1)).setCell ⟨w.heap.size + 1, 11, none⟩ (.slice a2 l.verts.length cp2))) := below_put12 HB.out (by omega) (.int .i64 l.head.age) (.int .i64 l.head.kind) (.int .i64 l.head.id) (.int .i64 l.head.adv) (.int .i64 l.head.seq) (.int .i64 l.head.sum) (.int .i64 l.head.len) (.int .i64 l.flags) (.slice a0 l.links.length cp0) (.int .i64 l.bits) (.slice a1 l.routers.length cp1) (.slice a2 l.verts.length cp2)
  have K0 : Hid (Lies ((((((((((((U3.setCell ⟨w.heap.size + 1, 0, none⟩ (.int .i64 l.head.age)).setCell ⟨w.heap.size + 1, 1, none⟩ (.int .i64 l.head.kind)).setCell ⟨w.heap.size + 1, 2, none⟩ (.int .i64 l.head.id)).setCell ⟨w.heap.size + 1, 3, none⟩ (.int .i64 l.head.adv)).setCell ⟨w.heap.size + 1, 4, none⟩ (.int .i64 l.head.seq)).setCell ⟨w.heap.size + 1, 5, none⟩ (.int .i64 l.head.sum)).setCell ⟨w.heap.size + 1, 6, none⟩ (.int .i64 l.head.len)).setCell ⟨w.heap.size + 1, 7, none⟩ (.int .i64 l.flags)).setCell ⟨w.heap.size + 1, 8, none⟩ (.slice a0 l.links.length cp0)).setCell ⟨w.heap.size + 1, 9, none⟩ (.int .i64 l.bits)).setCell ⟨w.heap.size + 1, 10, none⟩ (.slice a1 l.routers.length cp1)).setCell ⟨w.heap.size + 1, 11, none⟩ (.slice a2 l.verts.length cp2)) a0 _) := HL0.out.put12 HA0.out (by omega) (.int .i64 l.head.age) (.int .i64 l.head.kind) (.int .i64 l.head.id) (.int .i64 l.head.adv) (.int .i64 l.head.seq) (.int .i64 l.head.sum) (.int .i64 l.head.len) (.int .i64 l.flags) (.slice a0 l.links.length cp0) (.int .i64 l.bits) (.slice a1 l.routers.length cp1) (.slice a2 l.verts.length cp2)
  have K1 : Hid (Lies ((((((((((((U3.setCell ⟨w.heap.size + 1, 0, none⟩ (.int .i64 l.head.age)).setCell ⟨w.heap.size + 1, 1, none⟩ (.int .i64 l.head.kind)).setCell ⟨w.heap.size + 1, 2, none⟩ (.int .i64 l.head.id)).setCell ⟨w.heap.size + 1, 3, none⟩ (.int .i64 l.head.adv)).setCell ⟨w.heap.size + 1, 4, none⟩ (.int .i64 l.head.seq)).setCell ⟨w.heap.size + 1, 5, none⟩ (.int .i64 l.head.sum)).setCell ⟨w.heap.size + 1, 6, none⟩ (.int .i64 l.head.len)).setCell ⟨w.heap.size + 1, 7, none⟩ (.int .i64 l.flags)).setCell ⟨w.heap.size + 1, 8, none⟩ (.slice a0 l.links.length cp0)).setCell ⟨w.heap.size + 1, 9, none⟩ (.int .i64 l.bits)).setCell ⟨w.heap.size + 1, 10, none⟩ (.slice a1 l.routers.length cp1)).setCell ⟨w.heap.size + 1, 11, none⟩ (.slice a2 l.verts.length cp2)) a1 _) := HL1.out.put12 HA1.out (by omega) (.int .i64 l.head.age) (.int .i64 l.head.kind) (.int .i64 l.head.id) (.int .i64 l.head.adv) (.int .i64 l.head.seq) (.int .i64 l.head.sum) (.int .i64 l.head.len) (.int .i64 l.flags) (.slice a0 l.links.length cp0) (.int .i64 l.bits) (.slice a1 l.routers.length cp1) (.slice a2 l.verts.length cp2)
  have K4 : Hid (Lies ((((((((((((U3.setCell ⟨w.heap.size + 1, 0, none⟩ (.int .i64 l.head.age)).setCell ⟨w.heap.size + 1, 1, none⟩ (.int .i64 l.head.kind)).setCell ⟨w.heap.size + 1, 2, none⟩ (.int .i64 l.head.id)).setCell ⟨w.heap.size + 1, 3, none⟩ (.int .i64 l.head.adv)).setCell ⟨w.heap.size + 1, 4, none⟩ (.int .i64 l.head.seq)).setCell ⟨w.heap.size + 1, 5, none⟩ (.int .i64 l.head.sum)).setCell ⟨w.heap.size + 1, 6, none⟩ (.int .i64 l.head.len)).setCell ⟨w.heap.size + 1, 7, none⟩ (.int .i64 l.flags)).setCell ⟨w.heap.size + 1, 8, none⟩ (.slice a0 l.links.length cp0)).setCell ⟨w.heap.size + 1, 9, none⟩ (.int .i64 l.bits)).setCell ⟨w.heap.size + 1, 10, none⟩ (.slice a1 l.routers.length cp1)).setCell ⟨w.heap.size + 1, 11, none⟩ (.slice a2 l.verts.length cp2)) a2 _) := HL2.out.put12 HA2.out (by omega) (.int .i64 l.head.age) (.int .i64 l.head.kind) (.int .i64 l.head.id) (.int .i64 l.head.adv) (.int .i64 l.head.seq) (.int .i64 l.head.sum) (.int .i64 l.head.len) (.int .i64 l.flags) (.slice a0 l.links.length cp0) (.int .i64 l.bits) (.slice a1 l.routers.length cp1) (.slice a2 l.verts.length cp2)
  have y0 := HV.out.cell 0 rfl
  have y1 := HV.out.cell 1 rfl
  have y2 := HV.out.cell 2 rfl
  have y3 := HV.out.cell 3 rfl
  have y4 := HV.out.cell 4 rfl
  have y5 := HV.out.cell 5 rfl
  have y6 := HV.out.cell 6 rfl
  have y7 := HV.out.cell 7 rfl
  have y8 := HV.out.cell 8 rfl
  have y9 := HV.out.cell 9 rfl
  have y10 := HV.out.cell 10 rfl
  have y11 := HV.out.cell 11 rfl
  have r0 := HR.out.cell 0 rfl
  have q0 := HR.out.frozen 0
  have r1 := HR.out.cell 1 rfl
  have q1 := HR.out.frozen 1
  have r2 := HR.out.cell 2 rfl
  have q2 := HR.out.frozen 2
  have r3 := HR.out.cell 3 rfl
  have q3 := HR.out.frozen 3
  have r4 := HR.out.cell 4 rfl
  have q4 := HR.out.frozen 4
  have r5 := HR.out.cell 5 rfl
  have q5 := HR.out.frozen 5
  have r6 := HR.out.cell 6 rfl
  have q6 := HR.out.frozen 6
  have r7 := HR.out.cell 7 rfl
  have q7 := HR.out.frozen 7
  have r8 := HR.out.cell 8 rfl
  have q8 := HR.out.frozen 8
  have r9 := HR.out.cell 9 rfl
  have q9 := HR.out.frozen 9
  have r10 := HR.out.cell 10 rfl
  have q10 := HR.out.frozen 10
  have r11 := HR.out.cell 11 rfl
  have q11 := HR.out.frozen 11
  go_wp2
  clear y0 r0 q0 y1 r1 q1 y2 r2 q2 y3 r3 q3 y4 r4 q4 y5 r5 q5 y6 r6 q6 y7 r7 q7 y8 r8 q8 y9 r9 q9 y10 r10 q10 y11 r11 q11
  generalize ((((((((((((U3.setCell ⟨w.heap.size + 1, 0, none⟩ (.int .i64 l.head.age)).setCell ⟨w.heap.size + 1, 1, none⟩ (.int .i64 l.head.kind)).setCell ⟨w.heap.size + 1, 2, none⟩ (.int .i64 l.head.id)).setCell ⟨w.heap.size + 1, 3, none⟩ (.int .i64 l.head.adv)).setCell ⟨w.heap.size + 1, 4, none⟩ (.int .i64 l.head.seq)).setCell ⟨w.heap.size + 1, 5, none⟩ (.int .i64 l.head.sum)).setCell ⟨w.heap.size + 1, 6, none⟩ (.int .i64 l.head.len)).setCell ⟨w.heap.size + 1, 7, none⟩ (.int .i64 l.flags)).setCell ⟨w.heap.size + 1, 8, none⟩ (.slice a0 l.links.length cp0)).setCell ⟨w.heap.size + 1, 9, none⟩ (.int .i64 l.bits)).setCell ⟨w.heap.size + 1, 10, none⟩ (.slice a1 l.routers.length cp1)).setCell ⟨w.heap.size + 1, 11, none⟩ (.slice a2 l.verts.length cp2)) = Z at *
  have c0 := K3.out.cell 0 rfl
  have c1 := K3.out.cell 1 rfl
  have c2 := K3.out.cell 2 rfl
  have c3 := K3.out.cell 3 rfl
  have c4 := K3.out.cell 4 rfl
  have c5 := K3.out.cell 5 rfl
  have c6 := K3.out.cell 6 rfl
  have c7 := K3.out.cell 7 rfl
  have c8 := K3.out.cell 8 rfl
  have c9 := K3.out.cell 9 rfl
  have c10 := K3.out.cell 10 rfl
  have c11 := K3.out.cell 11 rfl
  refine bodyPost_ret (by simp [results, Try.results26, go_sem, c0, c1, c2, c3, c4, c5, c6, c7, c8, c9, c10, c11]; try rfl) rfl ?_
  exact ⟨⟨a0, cp0, a1, cp1, a2, cp2⟩, rfl, ⟨K0.out, K1.out, K4.out⟩, ⟨HQ0.out, HQ1.out, HQ2.out⟩, K2.out, HA0.out.mono (by omega), HA1.out.mono (by omega), HA2.out.mono (by omega)⟩
end Go.Proofs.Ytmcemhkhgccojaa
