/- It does not hang on the order in which the others stand. -/
import Derived.Test.YtioimebfenklkaaE10O
namespace Go.Proofs.Ytioimebfenklkaa
open Go.RowKit
set_option linter.unusedVariables false

def Good (w : World) (e : Ending) (w' : World) : Prop := e = .returned (.bool true) ∧ Below w.heap.size w w'
theorem awake_good (w : World) : Calls Try.prog 9 #[] w (Good w) := awake_any w
theorem Good.more {w0 w w' : World} {e : Ending} (h : Below w0.heap.size w0 w) (k : Good w e w') : Good w0 e w' := ⟨k.1, below_more h k.2 h.size⟩
set_option maxHeartbeats 6400000 in
theorem electOrder_walk (self : CandZ) (a : Option Addr) (cap : Nat) (l : List CandZ) (w : World) (hL : Lies w a (cellsOf candC l)) (hm : l.length ≤ maxLen) :
    Calls Try.prog 4 #[.agg (candA self), .slice a l.length cap] w (Good w) := by
  have HX : Hid (Var (w.alloc (.cells (candA self) 23)) w.heap.size (candC self)) := var_new w (candC self) _
  have HB : Hid (Below w.heap.size w (w.alloc (.cells (candA self) 23))) := below_new' _ _
  have HL : Hid (Lies w a (cellsOf candC l)) := hL
  clear hL
  by_cases h40 : 40 < l.length
  · go_enter Try.func4, Try.ntmps4
    go_wp2_with fail
    refine (awake_good _).mono ?_
    rintro e w1 hg
    have hg' := hg.more HB.out
    obtain ⟨rfl, -⟩ := hg
    go_wp2
    go_ret
    exact hg'
  have HN : Hid (l.length ≤ 40) := by show _ ≤ _; omega
  go_enter Try.func4, Try.ntmps4
  go_upto_region 5 with fail
  generalize w.alloc (.cells (candA self) 23) = W at *
  go_loopw [5, 6] (fun u t wr => ∃ j : Nat, j ≤ l.length ∧ t = .int .i64 ((j : Int) - 1) ∧ Hid (OwnC wr (w.heap.size + 1) u (l.drop j).reverse) ∧ Hid (Var wr w.heap.size (candC self)) ∧ Hid (Below w.heap.size w wr)) (fun _ t _ => (intOf t + 1).toNat)
  case atStart => exact ⟨l.length, by omega, rfl, by show OwnC _ _ _ _; rw [List.drop_length]; exact ownC_nil _ _, HX.out, HB.out⟩
  case round =>
    clear HX HB
    obtain ⟨j, hj, rfl, HO, HX, HB⟩ := hrel
    by_cases h0 : j = 0
    · subst h0
      have HO2 : Hid (OwnC wr (w.heap.size + 1) u5 l.reverse) := by have := HO.out; rw [List.drop_zero] at this; exact this
      clear HO
      obtain ⟨am, cm, hu, hlm, hnm, hlc, -⟩ := OwnC.more HO2.out
      rw [List.length_reverse] at hu
      subst hu
      have hln := HN.out
      have CE := elect_any self a l.length cap l wr rfl (HL.out.below HB.out) (by omega)
      have CF := fun W2 (h : Below wr.heap.size wr W2) => elect_any self am l.length cm l.reverse W2 (by simp) (hlm.below h) (by simp; omega)
      have hsame : electZ self l.reverse = electZ self l := elect_same (fun x => List.mem_reverse)
      rw [hsame] at CF
      clear hsame
      unfold ElectEnd at CE CF
      obtain ⟨p, q⟩ := electZ self l
      have d0 := HX.out.cell 0 rfl
      have d1 := HX.out.cell 1 rfl
      have d2 := HX.out.cell 2 rfl
      have d3 := HX.out.cell 3 rfl
      have d4 := HX.out.cell 4 rfl
      have h01 : (((0 : Nat) : Int) - 1) = -1 := by omega
      rw [h01]
      go_wp2_with fail
      refine CE.mono ?_
      rintro e w1 ⟨rfl, hb⟩
      have HX1 := HX.out.below hb HX.out.lt
      have HB1 : Hid (Below w.heap.size w w1) := below_more HB.out hb HB.out.size
      clear d0 d1 d2 d3 d4 CE
      have CF1 := CF w1 hb
      clear CF hb
      have d0 := HX1.cell 0 rfl
      have d1 := HX1.cell 1 rfl
      have d2 := HX1.cell 2 rfl
      have d3 := HX1.cell 3 rfl
      have d4 := HX1.cell 4 rfl
      go_wp2_with fail
      refine CF1.mono ?_
      rintro e w2 ⟨rfl, hb⟩
      have HB2 : Hid (Below w.heap.size w w2) := below_more HB1.out hb HB1.out.size
      clear hb d0 d1 d2 d3 d4
      go_wp2_with fail
      refine (awake_good _).mono ?_
      rintro e w3 hg
      have hg' := hg.more HB2.out
      obtain ⟨rfl, -⟩ := hg
      go_wp2
      go_ret
      exact hg'
    · obtain ⟨i, rfl⟩ : ∃ i, j = i + 1 := ⟨j - 1, by omega⟩
      have hi : i < l.length := by omega
      have hij : (((i + 1 : Nat) : Int) - 1) = (i : Int) := by omega
      rw [hij]
      have hiI : (i : Int) < (l.length : Int) := by omega
      have hln := HN.out
      generalize wr = w1 at *
      go_wp2_with fail
      go_loopw [7] (fun t w2 => ∃ k : Nat, k ≤ i ∧ t = .int .i64 k ∧ Hid (Below w1.heap.size w1 w2)) (fun t _ => i - (intOf t).toNat)
      case atStart => exact ⟨0, by omega, rfl, Below.refl _ _⟩
      case round =>
        obtain ⟨k, hk, rfl, HK⟩ := hrel
        by_cases hlt : k < i
        · have hkI : (k : Int) < (i : Int) := by omega
          have hkl : (k : Int) < (l.length : Int) := by omega
          have hLb := HL.out.below (below_more HB.out HK.out HB.out.size)
          obtain ⟨b, off, rfl, -, c1, -⟩ := Cands.cells hLb k (by omega)
          obtain ⟨b', off', e', -, c2, -⟩ := Cands.cells hLb i (by omega)
          cases e'
          clear hLb
          generalize l[k].addr = A at *
          generalize l[i].addr = B at *
          by_cases hab : A = B
          rotate_left
          · go_upto_region 10 with fail
            go_quiet (fail)
            have HK2 : Hid (Below w1.heap.size w1 (wr.drewN nq)) := HK.out.trans ⟨rfl, rfl, rfl, Nat.le_refl _, fun _ _ => rfl⟩
            clear c1 c2
            generalize wr.drewN nq = w3 at *
            go_wp2
            go_roundw
            case rel => exact ⟨k + 1, by omega, by go_num, HK2.out⟩
            case measure => simp [intOf]; omega
          · have hab2 : (A == B) = true := by simpa using hab
            clear hab
            go_upto_region 10 with fail
            go_quiet (fail)
            have HK2 : Hid (Below w1.heap.size w1 (wr.drewN nq)) := HK.out.trans ⟨rfl, rfl, rfl, Nat.le_refl _, fun _ _ => rfl⟩
            clear c1 c2
            generalize wr.drewN nq = w3 at *
            go_wp2_with fail
            refine (awake_good _).mono ?_
            rintro e w4 hg
            have hg' := hg.more (below_more HB.out HK2.out HB.out.size)
            obtain ⟨rfl, -⟩ := hg
            go_wp2
            go_ret
            exact hg'
        · have hki : k = i := by omega
          subst hki
          have HB2 : Hid (Below w.heap.size w wr) := below_more HB.out HK.out HB.out.size
          have HX2 : Hid (Var wr w.heap.size (candC self)) := HX.out.below HK.out HX.out.lt
          have HO2 : Hid (OwnC wr (w.heap.size + 1) u5 (l.drop (k + 1)).reverse) := HO.out.below HK.out
          have HD : Hid ((l.drop k).reverse = (l.drop (k + 1)).reverse ++ [l[k]]) := by show _ = _; rw [List.drop_eq_getElem_cons hi, List.reverse_cons]
          have hdl : (l.drop (k + 1)).reverse.length + 1 ≤ 1000000 := by rw [List.length_reverse, List.length_drop]; omega
          obtain ⟨b, off, rfl, c0, c1, c2, c3, c4⟩ := Cands.cells (HL.out.below HB2.out) k hi
          obtain ⟨x, hx⟩ : ∃ x, l[k] = x := ⟨_, rfl⟩
          rw [hx] at c0 c1 c2 c3 c4 HD
          clear hx HB HX HO HK
          have hsz : w.heap.size + 1 ≤ wr.heap.size := HX2.out.lt
          have hno : ¬ ((k : Int) < (k : Int)) := by omega
          go_wp2_with (at_builtin; go_must (refine wp_append_cand wr _ rfl rfl _ _ rfl (w.heap.size + 1) u5 _ rfl HO2.out x rfl hdl hsz ?_))
          intro v' w3 ho hb
          have HO3 : Hid (OwnC w3 (w.heap.size + 1) v' (l.drop k).reverse) := by show OwnC _ _ _ _; rw [HD.out]; exact ho
          have HB3 : Hid (Below w.heap.size w w3) := HB2.out.trans (hb.mono (by omega))
          have HX3 : Hid (Var w3 w.heap.size (candC self)) := HX2.out.below hb (by omega)
          clear ho hb c0 c1 c2 c3 c4 HB2 HX2 HO2
          go_wp2
          go_roundw
          case rel => exact ⟨k, by omega, by go_num, HO3.out, HX3.out, HB3.out⟩
          case measure => first | (simp [intOf]; done) | (simp [intOf]; omega)
end Go.Proofs.Ytioimebfenklkaa
