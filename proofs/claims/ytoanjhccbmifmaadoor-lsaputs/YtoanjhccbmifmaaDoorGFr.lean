/- From what the row says of the five listed variables to what a walk speaks of. -/
import Derived.Test.YtoanjhccbmifmaaDoorOFr
import Derived.Test.YtoanjhccbmifmaaDoorES
import Derived.Test.YtoanjhccbmifmaaDoorTie
import Derived.Test.YtoanjhccbmifmaaDoorCards
import Derived.ChangeVars
import Derived.HandedShaped
import Derived.JoinedOf
import Derived.LaidLaws
import Derived.LaidOnce
import Derived.Lay
import Derived.PinnedBridge
import Derived.SizedLaws
import Derived.Stop.LaidTwo
import Derived.Stop.Joined
import Derived.SevenTiedAt
namespace Go.Proofs.YtoanjhccbmifmaaDoor
open Go.ChangeShapes Go.WideShapes Go.ChangeAt Go.RowKit

/-- The wrap with the listed variables and the world's shape both kept. -/
theorem returns_shaped_and {H : Type} {enc : TypeId × Value → H} {a : Assume} {C : Checked} {os : Os} {f : FuncId} {fn : Func} {s : ChangeSpec} {conds : List PathCond} {apart fresh handsOn again : Bool} {X : World → Array Value → Prop}
    (hX : ∀ (w w' : World) (args : Array Value), w.heap = w'.heap → X w args → X w' args)
    (own : ownKnob C.prog.godebug = none) (started : os.Started) (noInit : C.prog.inits.idxOf? f = none) (hfn : C.prog.funcs[f]? = some fn)
    (witness : ∃ (w : World) (tape : Tape) (i : Input), w.os = os ∧ (w.forCall tape i).Shaped C.prog ∧ i.vars = [] ∧ Input.okWide C.prog (w.forCall tape i) .any w.heap.size f i ∧
      ((s.pre enc C.prog fn conds apart (w.forCall tape i).memory i.args ∧ X (w.forCall tape i).memory i.args) ∧ sizedMet enc C.prog fn (OpenSpec.ofChange s) apart (w.forCall tape i).memory i.args) ∧ a.holds C.prog (lone (Frame.enter C.prog f i.args .normal) [] (w.forCall tape i)))
    (contract : ∀ (W : World) (base : Nat) (args : Array Value) (ds gs : List (DataW H)) (before : List MemPlace),
      (∀ (j : Nat) t v, fn.params[j]? = some t → args[j]? = some v → Value.okWide C.prog W .any base t v) →
      DataW.Whole enc C.prog fn.params.toList s.vars apart W args.toList ds gs before →
      conds.all (PathCond.test C.prog ⟨fn.params.toList, ds, s.plain.varTypes C.prog, gs⟩) = true →
      (DataW.weightsEach C.prog (fn.params.toList ++ s.plain.varTypes C.prog) (ds ++ gs)).all (· ≤ reachBytes) = true → X W args → W.ShapedOpen C.prog →
      a.holds C.prog (lone (Frame.enter C.prog f args .normal) [] W) →
      Calls C.prog f args W fun e W' => ∃ v, e = .returned v ∧ s.post enc C.prog fn apart fresh handsOn again W args v W') :
    ReturnsInHanded a C os f .any (fun w args => (s.pre enc C.prog fn conds apart w args ∧ X w args) ∧ sizedMet enc C.prog fn (OpenSpec.ofChange s) apart w args) (s.post enc C.prog fn apart fresh handsOn again) := by
  refine returnsInHanded_of_calls own started noInit witness ?_
  intro w tape i _ hsh _ hok hpre hholds
  obtain ⟨_, _, _, fn', hfn', _, _, _, _, hval⟩ := hok
  have e : fn' = fn := Option.some.inj (hfn'.symm.trans hfn)
  subst e
  obtain ⟨⟨⟨ds, gs, before, hw, hc⟩, hx⟩, hz⟩ := hpre
  have hw' := DataW.Whole.of_heap (w' := w.forCall tape i) (by rfl) hw
  refine (contract (w.forCall tape i) w.heap.size i.args ds gs before hval hw' hc (hz.weights hw) (hX _ _ _ (by rfl) hx) hsh hholds).mono fun e W' ⟨v, he, hp⟩ => ?_
  subst he
  exact ChangeSpec.post_blind hp

theorem g_0 : Tryd.prog.globalNamed "plenum/lsa.errArg" = some 0 := by kernel_rfl
theorem g_1 : Tryd.prog.globalNamed "plenum/lsa.errShort" = some 1 := by kernel_rfl
theorem g_2 : Tryd.prog.globalNamed "plenum/lsa.errForm" = some 2 := by kernel_rfl
theorem g_3 : Tryd.prog.globalNamed "plenum/lsa.errSum" = some 3 := by kernel_rfl
theorem g_4 : Tryd.prog.globalNamed "plenum/lsa.errKind" = some 4 := by kernel_rfl
theorem gt_0 : (Tryd.prog.globals[0]?).map (·.type) = some 60 := by kernel_rfl
theorem gt_1 : (Tryd.prog.globals[1]?).map (·.type) = some 60 := by kernel_rfl
theorem gt_2 : (Tryd.prog.globals[2]?).map (·.type) = some 60 := by kernel_rfl
theorem gt_3 : (Tryd.prog.globals[3]?).map (·.type) = some 60 := by kernel_rfl
theorem gt_4 : (Tryd.prog.globals[4]?).map (·.type) = some 60 := by kernel_rfl
theorem cellsES : Tryd.prog.cellsOf 151 = 1 := by kernel_rfl
theorem cellsStr : Tryd.prog.cellsOf 9 = 1 := by kernel_rfl
theorem star : "*" ++ "errors.errorString" = "*errors.errorString" := by decide
theorem rowES (u : TypeId) (h : Tryd.prog.typeName? 3 u = some "*errors.errorString") : u = 125 :=
  typeName_ptr_named (nm := "errors.errorString") (by rw [star]; kernel_rfl) (by kernel_rfl) (by decide) u (by rw [star]; exact h)
def texts : List (List UInt8) := [[115, 111, 109, 101, 116, 104, 105, 110, 103, 32, 116, 104, 97, 116, 32, 109, 97, 121, 32, 110, 111, 116, 32, 98, 101], [98, 121, 116, 101, 115, 32, 116, 104, 97, 116, 32, 101, 110, 100, 32, 116, 111, 111, 32, 115, 111, 111, 110], [98, 121, 116, 101, 115, 32, 116, 104, 97, 116, 32, 115, 97, 121, 32, 110, 111, 116, 104, 105, 110, 103], [97, 32, 99, 104, 101, 99, 107, 32, 115, 117, 109, 32, 116, 104, 97, 116, 32, 105, 115, 32, 110, 111, 116, 32, 114, 105, 103, 104, 116], [97, 32, 107, 105, 110, 100, 32, 116, 104, 97, 116, 32, 105, 115, 32, 110, 111, 116, 32, 107, 110, 111, 119, 110]]
theorem texts_apart : ∀ i j : Fin 5, i ≠ j → texts.getD i.val [] ≠ texts.getD j.val [] := by decide
def five (a0 a1 a2 a3 a4 : Addr) : Nat → Addr
  | 0 => a0
  | 1 => a1
  | 2 => a2
  | 3 => a3
  | _ => a4
theorem env_of5 {W : World} {a0 a1 a2 a3 a4 : Addr} {s0 s1 s2 s3 s4 : ByteArray}
    (v0 : W.cell? ⟨0, 0, none⟩ = some (.iface 125 (.pointer (some a0)))) (v1 : W.cell? ⟨1, 0, none⟩ = some (.iface 125 (.pointer (some a1)))) (v2 : W.cell? ⟨2, 0, none⟩ = some (.iface 125 (.pointer (some a2)))) (v3 : W.cell? ⟨3, 0, none⟩ = some (.iface 125 (.pointer (some a3)))) (v4 : W.cell? ⟨4, 0, none⟩ = some (.iface 125 (.pointer (some a4))))
    (r0 : ∃ c t, W.heap[a0.block]? = some (.cells c t (0, 0))) (r1 : ∃ c t, W.heap[a1.block]? = some (.cells c t (0, 0))) (r2 : ∃ c t, W.heap[a2.block]? = some (.cells c t (0, 0))) (r3 : ∃ c t, W.heap[a3.block]? = some (.cells c t (0, 0))) (r4 : ∃ c t, W.heap[a4.block]? = some (.cells c t (0, 0)))
    (c0 : W.cell? a0 = some (.string s0)) (c1 : W.cell? a1 = some (.string s1)) (c2 : W.cell? a2 = some (.string s2)) (c3 : W.cell? a3 = some (.string s3)) (c4 : W.cell? a4 = some (.string s4))
    (t0 : s0.data.toList = texts.getD 0 []) (t1 : s1.data.toList = texts.getD 1 []) (t2 : s2.data.toList = texts.getD 2 []) (t3 : s3.data.toList = texts.getD 3 []) (t4 : s4.data.toList = texts.getD 4 []) : Env W := by
  refine ⟨five a0 a1 a2 a3 a4, fun i hi => ?_, fun i hi => ?_, fun i j hi hj hne he => ?_⟩
  · match i, hi with
    | 0, _ => exact v0
    | 1, _ => exact v1
    | 2, _ => exact v2
    | 3, _ => exact v3
    | 4, _ => exact v4
  · match i, hi with
    | 0, _ => exact r0
    | 1, _ => exact r1
    | 2, _ => exact r2
    | 3, _ => exact r3
    | 4, _ => exact r4
  · have key : ∀ i : Nat, i < 5 → ∃ s : ByteArray, W.cell? (five a0 a1 a2 a3 a4 i) = some (.string s) ∧ s.data.toList = texts.getD i [] := by
      intro i hi
      match i, hi with
      | 0, _ => exact ⟨s0, c0, t0⟩
      | 1, _ => exact ⟨s1, c1, t1⟩
      | 2, _ => exact ⟨s2, c2, t2⟩
      | 3, _ => exact ⟨s3, c3, t3⟩
      | 4, _ => exact ⟨s4, c4, t4⟩
    obtain ⟨x, hx, ex⟩ := key i hi
    obtain ⟨y, hy, ey⟩ := key j hj
    rw [he, hy] at hx
    have hs : y = x := by simpa using hx
    rw [hs, ex] at ey
    exact texts_apart ⟨i, hi⟩ ⟨j, hj⟩ (fun e => hne (by simpa using e)) ey
theorem env_of {W : World} (hL0 : laidMetH Tryd.prog Rows.lsaPutsRow.laid W) : Env W := by
  rw [MakeChecks.laidMetH_plain _ _ _ (by kernel_rfl)] at hL0
  have hL : laidMet Tryd.prog [("plenum/lsa.errArg", Rows.laid_plenum_lsa_errArg), ("plenum/lsa.errShort", Rows.laid_plenum_lsa_errShort), ("plenum/lsa.errForm", Rows.laid_plenum_lsa_errForm), ("plenum/lsa.errSum", Rows.laid_plenum_lsa_errSum), ("plenum/lsa.errKind", Rows.laid_plenum_lsa_errKind)] W := hL0
  obtain ⟨a0, a1, s0, s1, k0, k1, t0, t1, hv0, hv1, hc0, hs0, _, hc1, hs1, _, _, hb0, hb1⟩ := laid_sentinels2 hL g_0 gt_0 g_1 gt_1 Tryd.underlying60 rowES Tryd.underlying125 Tryd.underlying151 rfl rfl Tryd.underlying9 cellsES cellsStr
  obtain ⟨a2, a3, s2, s3, k2, k3, t2, t3, hv2, hv3, hc2, hs2, _, hc3, hs3, _, _, hb2, hb3⟩ := laid_sentinels2 hL.tail.tail g_2 gt_2 g_3 gt_3 Tryd.underlying60 rowES Tryd.underlying125 Tryd.underlying151 rfl rfl Tryd.underlying9 cellsES cellsStr
  obtain ⟨b3, a4, u3, s4, q3, k4, y3, t4, _, hv4, _, _, _, hc4, hs4, _, _, _, hb4⟩ := laid_sentinels2 hL.tail.tail.tail g_3 gt_3 g_4 gt_4 Tryd.underlying60 rowES Tryd.underlying125 Tryd.underlying151 rfl rfl Tryd.underlying9 cellsES cellsStr
  exact env_of5 (by simpa using World.var?_cell g_0 hv0 0) (by simpa using World.var?_cell g_1 hv1 0) (by simpa using World.var?_cell g_2 hv2 0) (by simpa using World.var?_cell g_3 hv3 0) (by simpa using World.var?_cell g_4 hv4 0)
    ⟨_, _, hb0⟩ ⟨_, _, hb1⟩ ⟨_, _, hb2⟩ ⟨_, _, hb3⟩ ⟨_, _, hb4⟩ hc0 hc1 hc2 hc3 hc4 hs0 hs1 hs2 hs3 hs4
end Go.Proofs.YtoanjhccbmifmaaDoor
