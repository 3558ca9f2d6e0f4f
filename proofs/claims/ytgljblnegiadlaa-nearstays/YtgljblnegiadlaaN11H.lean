/- Package near: Hear. -/
import Derived.Test.YtgljblnegiadlaaN11V
namespace Go.Proofs.Ytgljblnegiadlaa
open Go.RowKit Go.Sort Go.Lib
set_option linter.unusedVariables false
set_option linter.unusedSectionVars false
variable [Inhabited NearZ]

structure PkZ where
  (kind router bits prio dr bdr : Int) (seen : List Int) (sa : Option Addr) (sc : Nat) (flags seq : Int) (hv kv lv : Value)
abbrev pkA (p : PkZ) : Array Value := #[.int .i64 p.kind, .int .i64 p.router, .int .i64 p.bits, .int .i64 p.prio, .int .i64 p.dr, .int .i64 p.bdr, .slice p.sa p.seen.length p.sc, .int .i64 p.flags, .int .i64 p.seq, p.hv, p.kv, p.lv]
def pkC (p : PkZ) : List Value := [.int .i64 p.kind, .int .i64 p.router, .int .i64 p.bits, .int .i64 p.prio, .int .i64 p.dr, .int .i64 p.bdr, .slice p.sa p.seen.length p.sc, .int .i64 p.flags, .int .i64 p.seq, p.hv, p.kv, p.lv]
def heardZ (p : PkZ) (addr self : Int) : NearZ := ⟨p.router, addr, p.prio, p.dr, p.bdr, p.seen.contains self, 16⟩
def hearZ (L : List NearZ) (p : PkZ) (addr self : Int) : List NearZ := if p.kind = 1 ∧ p.router ≠ self then withZ (orderZ L) (heardZ p addr self) else orderZ L
/-- A list of a call's own. -/
def ListEnd (w : World) (M : List NearZ) (e : Ending) (w' : World) : Prop := ∃ v, e = .returned v ∧ OwnN w' w.heap.size v M ∧ Below w.heap.size w w'
theorem OwnN.base {w : World} {base base' : Nat} {v : Value} {L : List NearZ} (h : OwnN w base v L) (hb : base' ≤ base) : OwnN w base' v L := ownsRow_base h hb
theorem OwnN.put {w : World} {base g c n : Nat} {L : List NearZ} (h : OwnN w base (.slice (some ⟨g, 0, none⟩) n c) L) (p : Nat) (hp : p < L.length) (z : NearZ) :
    OwnN (sw7 w g (p * 7) z) base (.slice (some ⟨g, 0, none⟩) n c) (L.set p z) ∧ Below base w (sw7 w g (p * 7) z) ∧ (∀ i, w.frozen? ⟨g, i, none⟩ = false) := by
  obtain ⟨a', c', e, -⟩ := OwnN.more h
  cases e
  have hg := (World.ownsRow.lt h g rfl).1
  have hst : ∀ (W : World) (xs : List Value) (j : Nat) (u : Value), W.ownsRow base 42 7 (.slice (some ⟨g, 0, none⟩) L.length c) L.length xs → (W.setCell ⟨g, j, none⟩ u).ownsRow base 42 7 (.slice (some ⟨g, 0, none⟩) L.length c) L.length (xs.set j u) := fun W xs j u h => (World.ownsRow.stored h j u).1
  refine ⟨?_, ?_, fun i => World.ownsRow.frozenAt h i⟩
  · have h7 := hst _ _ (p * 7 + 6) (.int .i64 z.left) (hst _ _ (p * 7 + 5) (.bool z.two) (hst _ _ (p * 7 + 4) (.int .i64 z.bdr) (hst _ _ (p * 7 + 3) (.int .i64 z.dr) (hst _ _ (p * 7 + 2) (.int .i64 z.prio) (hst _ _ (p * 7 + 1) (.int .i64 z.addr) (hst _ _ (p * 7) (.int .i64 z.id) h))))))
    unfold OwnN
    rw [List.length_set, ← cells_split L p hp z]
    have e : ((((((((cellsOf nearC L).set (p * 7) (.int .i64 z.id)).set (p * 7 + 1) (.int .i64 z.addr)).set (p * 7 + 2) (.int .i64 z.prio)).set (p * 7 + 3) (.int .i64 z.dr)).set (p * 7 + 4) (.int .i64 z.bdr)).set (p * 7 + 5) (.bool z.two)).set (p * 7 + 6) (.int .i64 z.left)) = (cellsOf nearC L).take (p * 7) ++ nearC z ++ (cellsOf nearC L).drop (p * 7 + 7) := by
      have hx := nears_len L
      have hpl : p * 7 + 7 ≤ (cellsOf nearC L).length := by rw [hx]; omega
      apply List.ext_getElem?
      intro j
      simp only [List.getElem?_set, List.length_set]
      rcases Nat.lt_or_ge j (p * 7) with hj | hj
      · rw [if_neg (by omega), if_neg (by omega), if_neg (by omega), if_neg (by omega), if_neg (by omega), if_neg (by omega), if_neg (by omega), List.append_assoc, List.getElem?_append_left (by rw [List.length_take]; omega), List.getElem?_take_of_lt hj]
      · rcases Nat.lt_or_ge j (p * 7 + 7) with hj2 | hj2
        · obtain ⟨c, rfl⟩ : ∃ c, j = p * 7 + c := ⟨j - p * 7, by omega⟩
          have hc : c < 7 := by omega
          rw [List.getElem?_append_left (by rw [List.length_append, List.length_take, nearC_length]; omega), List.getElem?_append_right (by rw [List.length_take]; omega), List.length_take, Nat.min_eq_left (by omega), show p * 7 + c - p * 7 = c by omega]
          have : c = 0 ∨ c = 1 ∨ c = 2 ∨ c = 3 ∨ c = 4 ∨ c = 5 ∨ c = 6 := by omega
          rcases this with rfl | rfl | rfl | rfl | rfl | rfl | rfl <;> simp [nearC] <;> omega
        · rw [if_neg (by omega), if_neg (by omega), if_neg (by omega), if_neg (by omega), if_neg (by omega), if_neg (by omega), if_neg (by omega), List.getElem?_append_right (by rw [List.length_append, List.length_take, nearC_length]; omega), List.length_append, List.length_take, nearC_length, Nat.min_eq_left (by omega), List.getElem?_drop]
          congr 1; omega
    rw [← e]
    exact h7
  · have hx : ∀ i, base ≤ (⟨g, i, none⟩ : Addr).block := fun _ => hg
    unfold sw7
    exact (Below.refl base w) |>.setCell (hx _) _ |>.setCell (hx _) _ |>.setCell (hx _) _ |>.setCell (hx _) _ |>.setCell (hx _) _ |>.setCell (hx _) _ |>.setCell (hx _) _
set_option maxHeartbeats 4000000 in
set_option maxRecDepth 20000 in
theorem hear_any (a : Option Addr) (n cap : Nat) (L : List NearZ) (p : PkZ) (addr self : Int) (w : World) (hn : n = L.length) (hL : Lies w a (cellsOf nearC L)) (hnil : a = none → cap = 0) (hl : L.length ≤ 100000) (hS : Lies w p.sa (cellsOf intC p.seen)) (hsl : p.seen.length ≤ 1000000) :
    Calls Try.prog 10 #[.slice a n cap, .agg (pkA p), .int .i64 addr, .int .i64 self] w (ListEnd w (hearZ L p addr self)) := by
  have HB0 : Hid (Below w.heap.size w (w.alloc (.cells (pkA p) 28))) := below_new' _ _
  have HX0 : Hid (Var (w.alloc (.cells (pkA p) 28)) w.heap.size (pkC p)) := var_new w (pkC p) _
  have CO := inOrder_any a n cap L (w.alloc (.cells (pkA p) 28)) hn (hL.below HB0.out) hnil (by omega)
  have HS0 : Hid (∀ X, Below w.heap.size w X → Lies X p.sa (cellsOf intC p.seen)) := fun X h => hS.below h
  obtain ⟨O, hO⟩ : ∃ O, orderZ L = O := ⟨_, rfl⟩
  have HOS : Hid (Strict O ∧ O.length ≤ 100000) := by rw [← hO]; exact ⟨order_strict L, Nat.le_trans (order_length L) hl⟩
  have HE : Hid (hearZ L p addr self = if p.kind = 1 ∧ p.router ≠ self then withZ O (heardZ p addr self) else O) := by show _ = _; rw [← hO]; rfl
  obtain ⟨R, hR⟩ : ∃ R, hearZ L p addr self = R := ⟨_, rfl⟩
  unfold OrderEnd at CO
  rw [hO] at CO
  rw [hR] at HE ⊢
  clear hL hS hnil hn hl hO hR
  go_enter Try.func10, Try.ntmps10
  go_upto_region 1 with fail
  obtain ⟨pb, hpb⟩ : ∃ pb, w.heap.size = pb := ⟨_, rfl⟩
  have HPB : Hid (w.heap.size = pb) := hpb
  rw [hpb] at HX0 ⊢
  generalize w.alloc (.cells (pkA p) 28) = W at *
  clear hpb
  go_wp2_with fail
  refine CO.mono ?_
  rintro e w1 ⟨v1, rfl, ho1, hb1⟩
  have HO1 : Hid (OwnN w1 W.heap.size v1 O) := ho1
  have HWW : Hid (w.heap.size ≤ W.heap.size ∧ pb < W.heap.size) := ⟨HB0.out.size, HX0.out.lt⟩
  have HB1 : Hid (Below w.heap.size w w1) := below_more HB0.out hb1 HB0.out.size
  have HX1 : Hid (Var w1 pb (pkC p)) := HX0.out.below hb1 HX0.out.lt
  have HWSZ : Hid (W.heap.size ≤ w1.heap.size) := hb1.size
  clear ho1 hb1 CO HX0 HB0
  have d0 := HX1.out.cell 0 rfl
  have d1 := HX1.out.cell 1 rfl
  by_cases hk : p.kind = 1
  · by_cases hr : p.router = self
    · have HE2 : Hid (R = O) := by show _ = _; rw [HE.out, if_neg (fun h => h.2 hr)]
      have hkb : (p.kind != 1) = false := by simp [hk]
      have hrb : (p.router == self) = true := by simp [hr]
      clear HE hk hr
      go_wp2
      go_ret
      exact ⟨_, rfl, by rw [HE2.out]; exact HO1.out.base HWW.out.1, HB1.out⟩
    · have HE2 : Hid (R = withZ O (heardZ p addr self)) := by show _ = _; rw [HE.out, if_pos ⟨hk, hr⟩]
      have hkb : (p.kind != 1) = false := by simp [hk]
      have hrb : (p.router == self) = false := by simp [hr]
      clear HE hk hr
      have HX1p : Hid (pb < w1.heap.size) := HX1.out.lt
      have keepS : Hid (∀ X, Below w1.heap.size w1 X → X.cell? ⟨pb, 1, none⟩ = some (.int .i64 p.router) ∧ X.cell? ⟨pb, 3, none⟩ = some (.int .i64 p.prio) ∧ X.cell? ⟨pb, 4, none⟩ = some (.int .i64 p.dr) ∧ X.cell? ⟨pb, 5, none⟩ = some (.int .i64 p.bdr) ∧ X.cell? ⟨pb, 6, none⟩ = some (.slice p.sa p.seen.length p.sc) ∧ Hid (Below w1.heap.size w1 X)) := fun X hX => by
        have hv := HX1.out.below hX HX1.out.lt
        exact ⟨hv.cell 1 rfl, hv.cell 3 rfl, hv.cell 4 rfl, hv.cell 5 rfl, hv.cell 6 rfl, hX⟩
      have hS := keepS.out _ (Below.refl _ _).drew
      have CC : Hid (∀ X, Below w1.heap.size w1 X → Calls Try.prog 21 #[.slice p.sa p.seen.length p.sc, .int .i64 self] X fun e w' => e = .returned (.bool (p.seen.contains self)) ∧ w' = X) := fun X hX =>
        contains_any p.sa p.seen.length p.sc p.seen self X rfl (HS0.out X (below_more HB1.out hX HB1.out.size)) hsl
      have HZ : Hid (heardZ p addr self = ⟨p.router, addr, p.prio, p.dr, p.bdr, p.seen.contains self, 16⟩) := rfl
      obtain ⟨two, htwo⟩ : ∃ two, p.seen.contains self = two := ⟨_, rfl⟩
      rw [htwo] at CC HZ
      clear htwo
      go_upto_region 4 with fail
      clear d0 d1
      go_cut [10] from 25 (fun v wx => v = .pointer (some ⟨w1.heap.size, 0, none⟩) ∧ Hid (Var wx w1.heap.size (nearC (heardZ p addr self)) ∧ Below w1.heap.size w1 wx))
      case first =>
        go_region_held3 (fun X => X.cell? ⟨pb, 1, none⟩ = some (.int .i64 p.router) ∧ X.cell? ⟨pb, 3, none⟩ = some (.int .i64 p.prio) ∧ X.cell? ⟨pb, 4, none⟩ = some (.int .i64 p.dr) ∧ X.cell? ⟨pb, 5, none⟩ = some (.int .i64 p.bdr) ∧ X.cell? ⟨pb, 6, none⟩ = some (.slice p.sa p.seen.length p.sc) ∧ Hid (Below w1.heap.size w1 X)) (with_reducible first | exact hS | exact keepS.out _ (below_new' w1 _).drew | exact keepS.out _ (below_put7 (below_new' w1 _) (Nat.le_refl _) _ _ _ _ _ _ _).drew | assumption | fail)
          (first | (go_at_call 21; refine (CC.out _ (by first | exact (Below.refl _ _).drew | exact (below_new' w1 _).drew)).mono ?_; rintro e w' ⟨rfl, rfl⟩))
        all_goals
          go_wp2_with fail
          go_meet
          exact ⟨rfl, by rw [HZ.out]; exact ⟨(var_new w1 (nearC ⟨p.router, addr, p.prio, p.dr, p.bdr, two, 16⟩) _).drew, (below_new' w1 _).drew⟩⟩
      case rest =>
        obtain ⟨hv10, HC⟩ := hcut
        subst hv10
        obtain ⟨h, hh⟩ : ∃ h, heardZ p addr self = h := ⟨_, rfl⟩
        rw [hh] at HC HE2
        clear hS keepS CC HZ hh two HX1 HX1p HS0
        obtain ⟨nb, hnb⟩ : ∃ nb, w1.heap.size = nb := ⟨_, rfl⟩
        have HV : Hid (Var wc nb (nearC h)) := by rw [← hnb]; exact HC.out.1
        have HBC : Hid (Below w.heap.size w wc) := below_more HB1.out HC.out.2 HB1.out.size
        have HOC : Hid (OwnN wc W.heap.size v1 O) := HO1.out.below HC.out.2
        have HWB : Hid (W.heap.size ≤ wc.heap.size) := by
          exact Nat.le_trans HWSZ.out HC.out.2.size
        rw [hnb]
        obtain ⟨a1, c1, e1, hl1, hn1, hc1, -⟩ := OwnN.more HOC.out
        subst e1
        have CF := find_any a1 O.length c1 O h.id wc rfl hl1 (by have := HOS.out.2; omega) HOS.out.1.rise
        have HOL : Hid (O.length ≤ 100000) := HOS.out.2
        clear HC HO1 HB1 hnb hl1 hn1 hc1
        have d0 := HV.out.cell 0 rfl
        go_wp2_with fail
        refine CF.mono ?_
        rintro e wf ⟨i, b, rfl, hi, hi1, hi2, hb, hbf⟩
        have HWI : Hid (withZ O h = if i < O.length ∧ ix O i = h.id then O.set i h else O.take i ++ h :: O.drop i) := with_at O h i hi hi1 hi2
        have HBF : Hid (b = true ↔ i < O.length ∧ ix O i = h.id) := hb
        have HVF : Hid (Var wf nb (nearC h)) := HV.out.below hbf HV.out.lt
        have HOF : Hid (OwnN wf W.heap.size (.slice a1 O.length c1) O) := HOC.out.below hbf
        have HBB : Hid (Below w.heap.size w wf) := below_more HBC.out hbf HBC.out.size
        have HWF : Hid (W.heap.size ≤ wf.heap.size) := Nat.le_trans HWB.out hbf.size
        clear CF hi1 hi2 hb hbf HV HOC HBC HWB d0
        have d0 := HVF.out.cell 0 rfl
        have d1 := HVF.out.cell 1 rfl
        have d2 := HVF.out.cell 2 rfl
        have d3 := HVF.out.cell 3 rfl
        have d4 := HVF.out.cell 4 rfl
        have d5 := HVF.out.cell 5 rfl
        have d6 := HVF.out.cell 6 rfl
        cases b with
        | true =>
          obtain ⟨hlt, hix⟩ := HBF.out.1 rfl
          have hO : O ≠ [] := by rintro rfl; simp at hlt
          obtain ⟨g, c', e, -, -, -⟩ := OwnN.place HOF.out hO
          simp only [Value.slice.injEq] at e
          obtain ⟨rfl, -, rfl⟩ := e
          obtain ⟨k0, k1, k2, k3, k4, k5, k6⟩ := HOF.out.cells i hlt
          obtain ⟨hp1, hp2, hf⟩ := HOF.out.put i hlt h
          obtain ⟨oA, hoA⟩ : ∃ oA, i * 7 = oA := ⟨_, rfl⟩
          rw [hoA] at k0 k1 k2 k3 k4 k5 k6 hp1 hp2
          obtain ⟨w5, hw5⟩ : ∃ w5, sw7 wf g oA h = w5 := ⟨_, rfl⟩
          rw [hw5] at hp1 hp2
          have HFIN : Hid (OwnN w5 w.heap.size (.slice (some ⟨g, 0, none⟩) O.length c1) R ∧ Below w.heap.size w w5) := by
            rw [HE2.out, HWI.out, if_pos ⟨hlt, hix⟩]
            exact ⟨hp1.base HWW.out.1, HBB.out.trans (hp2.mono HWW.out.1)⟩
          have f0 := hf oA
          have f1 := hf (oA + 1)
          have f2 := hf (oA + 2)
          have f3 := hf (oA + 3)
          have f4 := hf (oA + 4)
          have f5 := hf (oA + 5)
          have f6 := hf (oA + 6)
          have hltz : (i : Int) < (O.length : Int) := by omega
          simp only [sw7] at hw5
          clear hp1 hp2 hf HE2 HWI HBF HOF HBB hix hO
          go_wp2
          go_ret
          exact ⟨_, rfl, HFIN.out⟩
        | false =>
          have hng : ¬ (i < O.length ∧ ix O i = h.id) := fun k => absurd (HBF.out.2 k) (by simp)
          have CI := insN_any W.heap.size (.slice a1 O.length c1) O i wf.heap.size h (wf.alloc (.cells (nearA h) 42)) (Nat.le_trans HWF.out (by simp)) (HOF.out.below (below_new' _ _)) (by have := HOL.out; omega) hi (heap_alloc_new wf _) (fun k hk => Nat.ne_of_gt (World.ownsRow.lt HOF.out k hk).2)
          have HFIN : Hid (∀ v' w', OwnN w' W.heap.size v' (O.take i ++ h :: O.drop i) → Below W.heap.size (wf.alloc (.cells (nearA h) 42)) w' → ListEnd w R (.returned v') w') := fun v' w' k1 k2 => by
            rw [HE2.out, HWI.out, if_neg hng]
            exact ⟨v', rfl, k1.base HWW.out.1, (HBB.out.alloc HBB.out.size _).trans (k2.mono HWW.out.1)⟩
          clear HE2 HWI HBF HOF hng HBB
          go_wp2_with fail
          refine CI.mono ?_
          rintro e w6 ⟨v', rfl, k1, k2⟩
          have HE6 : Aside _ := HFIN.out v' w6 k1 k2
          clear k1 k2 CI HFIN d0 d1 d2 d3 d4 d5 d6
          go_wp2
          go_ret
          exact HE6.out
  · have HE2 : Hid (R = O) := by show _ = _; rw [HE.out, if_neg (fun h => hk h.1)]
    have hkb : (p.kind != 1) = true := by simp [hk]
    clear HE hk
    go_wp2
    go_ret
    exact ⟨_, rfl, by rw [HE2.out]; exact HO1.out.base HWW.out.1, HB1.out⟩
end Go.Proofs.Ytgljblnegiadlaa
