/- Package elect: a round; Elect. -/
import Derived.Test.YtioimebfenklkaaE10V
namespace Go.Proofs.Ytioimebfenklkaa
open Go.RowKit
set_option linter.unusedVariables false

theorem heard_more (self : CandZ) (l : List CandZ) (k : Nat) (hk : k < l.length) : heardZ self (l.take (k + 1)) = hearZ (heardZ self (l.take k)) l[k] := by
  unfold heardZ
  rw [← List.take_append_getElem hk, List.foldl_append]; rfl
theorem Cands.cells {w : World} {a : Option Addr} {l : List CandZ} (h : Lies w a (cellsOf candC l)) (i : Nat) (hi : i < l.length) :
    ∃ b off, a = some ⟨b, off, none⟩ ∧ w.cell? ⟨b, off + i * 5, none⟩ = some (.int .i64 l[i].id) ∧ w.cell? ⟨b, off + i * 5 + 1, none⟩ = some (.int .i64 l[i].addr) ∧ w.cell? ⟨b, off + i * 5 + 2, none⟩ = some (.int .i64 l[i].prio) ∧ w.cell? ⟨b, off + i * 5 + 3, none⟩ = some (.int .i64 l[i].dr) ∧ w.cell? ⟨b, off + i * 5 + 4, none⟩ = some (.int .i64 l[i].bdr) := by
  obtain ⟨b, off, rfl, hc⟩ := h.cell candC 5 (fun _ => rfl) (by rintro rfl; simp at hi) (by omega)
  exact ⟨b, off, rfl, hc i 0 hi (by omega), hc i 1 hi (by omega), hc i 2 hi (by omega), hc i 3 hi (by omega), hc i 4 hi (by omega)⟩
def RoundEnd (w : World) (c : ClaimsZ) (e : Ending) (w' : World) : Prop := e = .returned (.tuple #[.int .i64 (drZ c), .int .i64 (bdrZ c)]) ∧ Below w.heap.size w w'
set_option maxHeartbeats 3200000 in
theorem round_any (self : CandZ) (a : Option Addr) (n cap : Nat) (l : List CandZ) (w : World) (hn : n = l.length) (hL : Lies w a (cellsOf candC l)) (hl : l.length ≤ 1000000) :
    Calls Try.prog 15 #[.agg (candA self), .slice a n cap] w (RoundEnd w (heardZ self l)) := by
  subst hn
  obtain ⟨hX, hC⟩ := two_vars w (candC self) (clC noClaims) 23 39
  have HX : Hid (Var ((w.alloc (.cells (candA self) 23)).alloc (.cells (clC noClaims).toArray 39)) w.heap.size (candC self)) := hX
  have HC : Hid (Var ((w.alloc (.cells (candA self) 23)).alloc (.cells (clC noClaims).toArray 39)) (w.heap.size + 1) (clC noClaims)) := hC
  have HB : Hid (Below w.heap.size w ((w.alloc (.cells (candA self) 23)).alloc (.cells (clC noClaims).toArray 39))) := (below_new' _ _).alloc (by simp) _
  have HL : Hid (Lies w a (cellsOf candC l)) := hL
  have HN : Hid (l.length ≤ 1000000) := hl
  clear hX hC hL hl
  simp only [clC, candC, noClaims, zeroK, List.cons_append, List.nil_append] at HB HX HC
  go_enter Try.func15, Try.ntmps15
  go_upto_region 2 with fail
  generalize (w.alloc (.cells (candA self) 23)).alloc (.cells #[.int .i64 0, .int .i64 0, .int .i64 0, .int .i64 0, .int .i64 0, .int .i64 0, .int .i64 0, .int .i64 0, .int .i64 0, .int .i64 0, .int .i64 0, .int .i64 0, .int .i64 0, .int .i64 0, .int .i64 0] 39) = W at *
  have HC1 : Hid (Var W (w.heap.size + 1) (clC noClaims)) := HC.out
  have d0 := HX.out.cell 0 rfl
  have d1 := HX.out.cell 1 rfl
  have d2 := HX.out.cell 2 rfl
  have d3 := HX.out.cell 3 rfl
  have d4 := HX.out.cell 4 rfl
  go_wp2_with fail
  refine (hear_any (w.heap.size + 1) noClaims self W HC1.out).mono ?_
  rintro e w1 ⟨rfl, hv, hb⟩
  have HV1 : Hid (Var w1 (w.heap.size + 1) (clC (heardZ self (l.take 0)))) := hv
  have HB1 : Hid (Below w.heap.size w w1) := HB.out.trans (hb.mono (by omega))
  clear hv hb d0 d1 d2 d3 d4 HX HC HC1 HB
  go_wp2_with fail
  go_loopw [13] (fun t wr => ∃ k : Nat, k ≤ l.length ∧ t = .int .i64 k ∧ Hid (Var wr (w.heap.size + 1) (clC (heardZ self (l.take k)))) ∧ Hid (Below w.heap.size w wr)) (fun t _ => l.length - (intOf t).toNat)
  case atStart => exact ⟨0, by omega, rfl, HV1.out, HB1.out⟩
  case round =>
    clear HV1 HB1
    obtain ⟨k, hk, rfl, HV, HB⟩ := hrel
    by_cases hlt : k < l.length
    · have hki : (k : Int) < (l.length : Int) := by omega
      have hln := HN.out
      obtain ⟨b, off, rfl, c0, c1, c2, c3, c4⟩ := Cands.cells (HL.out.below HB.out) k hlt
      have HM : Hid (heardZ self (l.take (k + 1)) = hearZ (heardZ self (l.take k)) l[k]) := heard_more self l k hlt
      obtain ⟨x, hx⟩ : ∃ x, l[k] = x := ⟨_, rfl⟩
      rw [hx] at c0 c1 c2 c3 c4 HM
      clear hx
      have HX : Hid (Var (wr.alloc (.cells (candA x) 23)) wr.heap.size (candC x)) := var_new wr (candC x) _
      have HC : Hid (Var (wr.alloc (.cells (candA x) 23)) (w.heap.size + 1) (clC (heardZ self (l.take k)))) := HV.out.alloc _
      have HB2 : Hid (Below w.heap.size w (wr.alloc (.cells (candA x) 23))) := HB.out.alloc HB.out.size _
      clear HV HB
      go_upto_region 6 with fail
      clear c0 c1 c2 c3 c4
      generalize wr.alloc (.cells (candA x) 23) = V at *
      have d0 := HX.out.cell 0 rfl
      have d1 := HX.out.cell 1 rfl
      have d2 := HX.out.cell 2 rfl
      have d3 := HX.out.cell 3 rfl
      have d4 := HX.out.cell 4 rfl
      go_wp2_with fail
      refine (hear_any (w.heap.size + 1) _ x V HC.out).mono ?_
      rintro e w2 ⟨rfl, hv, hb⟩
      have HV2 : Hid (Var w2 (w.heap.size + 1) (clC (heardZ self (l.take (k + 1))))) := by show Var _ _ _; rw [HM.out]; exact hv
      have HB3 : Hid (Below w.heap.size w w2) := HB2.out.trans (hb.mono (by omega))
      clear hv hb d0 d1 d2 d3 d4 HX HC HB2 HM
      go_wp2
      go_roundw
      case rel => exact ⟨k + 1, by omega, by go_num, HV2.out, HB3.out⟩
      case measure => simp [intOf]; omega
    · have hke : k = l.length := by omega
      subst hke
      have HV2 : Hid (Var wr (w.heap.size + 1) (clC (heardZ self l))) := by have := HV.out; rw [List.take_length] at this; exact this
      have hnl : ¬ ((l.length : Int) < (l.length : Int)) := by omega
      have HE1 : Hid (bdrZ (heardZ self l) = addrOrZ (heardZ self l).b (heardZ self l).r.addr) := rfl
      have HE2 : Hid (drZ (heardZ self l) = addrOrZ (heardZ self l).d (bdrZ (heardZ self l))) := rfl
      unfold RoundEnd
      generalize bdrZ (heardZ self l) = B at *
      generalize drZ (heardZ self l) = D at *
      generalize heardZ self l = C at *
      clear HV
      have CA := addrOr_any C.b C.r.addr wr
      rw [← HE1.out] at CA
      have c5 := HV2.out.cell 5 rfl
      have c6 := HV2.out.cell 6 rfl
      have c7 := HV2.out.cell 7 rfl
      have c8 := HV2.out.cell 8 rfl
      have c9 := HV2.out.cell 9 rfl
      have c11 := HV2.out.cell 11 rfl
      go_wp2_with fail
      refine CA.mono ?_
      rintro e w2 ⟨rfl, hb⟩
      have HV3 := HV2.out.below hb HV2.out.lt
      have HB2 : Hid (Below w.heap.size w w2) := below_more HB.out hb HB.out.size
      clear c5 c6 c7 c8 c9 c11 hb HB CA
      have CA := addrOr_any C.d B w2
      rw [← HE2.out] at CA
      have c0 := HV3.cell 0 rfl
      have c1 := HV3.cell 1 rfl
      have c2 := HV3.cell 2 rfl
      have c3 := HV3.cell 3 rfl
      have c4 := HV3.cell 4 rfl
      go_wp2_with fail
      refine CA.mono ?_
      rintro e w3 ⟨rfl, hb⟩
      have HB3 : Hid (Below w.heap.size w w3) := below_more HB2.out hb HB2.out.size
      clear hb
      go_wp2
      go_ret2
      exact ⟨by rw [HE2.out, HE1.out]; rfl, HB3.out⟩
def ElectEnd (w : World) (p : Int × Int) (e : Ending) (w' : World) : Prop := e = .returned (.tuple #[.int .i64 p.1, .int .i64 p.2]) ∧ Below w.heap.size w w'
set_option maxHeartbeats 3200000 in
theorem elect_any (self : CandZ) (a : Option Addr) (n cap : Nat) (l : List CandZ) (w : World) (hn : n = l.length) (hL : Lies w a (cellsOf candC l)) (hl : l.length ≤ 1000000) :
    Calls Try.prog 10 #[.agg (candA self), .slice a n cap] w (ElectEnd w (electZ self l)) := by
  have HX : Hid (Var (w.alloc (.cells (candA self) 23)) w.heap.size (candC self)) := var_new w (candC self) _
  have HB : Hid (Below w.heap.size w (w.alloc (.cells (candA self) 23))) := below_new' _ _
  have HL : Hid (Lies w a (cellsOf candC l)) := hL
  have HN : Hid (l.length ≤ 1000000) := hl
  have HNn : Hid (n = l.length) := hn
  clear hL hl hn
  unfold ElectEnd electZ
  obtain ⟨dr, hdr⟩ : ∃ x, drZ (heardZ self l) = x := ⟨_, rfl⟩
  obtain ⟨bdr, hbdr⟩ : ∃ x, bdrZ (heardZ self l) = x := ⟨_, rfl⟩
  have CR := fun W (h : Below w.heap.size w W) => round_any self a n cap l W HNn.out (HL.out.below h) HN.out
  unfold RoundEnd at CR
  rw [hdr, hbdr] at CR
  have CS := fun W (h : Below w.heap.size w W) => round_any (saysZ self dr bdr) a n cap l W HNn.out (HL.out.below h) HN.out
  unfold RoundEnd at CS
  rw [hdr, hbdr]
  clear hdr hbdr
  have CT := turned_any self dr bdr
  generalize turnedZ self dr bdr = T at *
  go_enter Try.func10, Try.ntmps10
  go_upto_region 3 with fail
  generalize w.alloc (.cells (candA self) 23) = W at *
  have d0 := HX.out.cell 0 rfl
  have d1 := HX.out.cell 1 rfl
  have d2 := HX.out.cell 2 rfl
  have d3 := HX.out.cell 3 rfl
  have d4 := HX.out.cell 4 rfl
  go_wp2_with fail
  refine (CR W HB.out).mono ?_
  rintro e w1 ⟨rfl, hb⟩
  have HX1 : Hid (Var w1 w.heap.size (candC self)) := HX.out.below hb HX.out.lt
  have HB1 : Hid (Below w.heap.size w w1) := below_more HB.out hb HB.out.size
  clear hb HX HB d0 d1 d2 d3 d4
  have d0 := HX1.out.cell 0 rfl
  have d1 := HX1.out.cell 1 rfl
  have d2 := HX1.out.cell 2 rfl
  have d3 := HX1.out.cell 3 rfl
  have d4 := HX1.out.cell 4 rfl
  go_wp2_with fail
  refine (CT w1).mono ?_
  rintro e w2 ⟨rfl, hb⟩
  have HX2 : Hid (Var w2 w.heap.size (candC self)) := HX1.out.below hb HX1.out.lt
  have HB2 : Hid (Below w.heap.size w w2) := below_more HB1.out hb HB1.out.size
  clear hb HX1 HB1 d0 d1 d2 d3 d4 CT CR
  cases T with
  | false =>
    go_wp2
    go_ret2
    exact ⟨rfl, HB2.out⟩
  | true =>
    have d3 := HX2.out.cell 3 rfl
    have d4 := HX2.out.cell 4 rfl
    have f3 := HX2.out.frozen 3
    have f4 := HX2.out.frozen 4
    have HX3 : Hid (Var ((w2.setCell ⟨w.heap.size, 3, none⟩ (.int .i64 dr)).setCell ⟨w.heap.size, 4, none⟩ (.int .i64 bdr)) w.heap.size (candC (saysZ self dr bdr))) := (HX2.out.set 3 (.int .i64 dr)).set 4 (.int .i64 bdr)
    have HB3 : Hid (Below w.heap.size w ((w2.setCell ⟨w.heap.size, 3, none⟩ (.int .i64 dr)).setCell ⟨w.heap.size, 4, none⟩ (.int .i64 bdr))) := (HB2.out.setCell (p := ⟨w.heap.size, 3, none⟩) (Nat.le_refl _) _).setCell (p := ⟨w.heap.size, 4, none⟩) (Nat.le_refl _) _
    go_upto_region 6 with fail
    clear d3 d4 f3 f4
    generalize (w2.setCell ⟨w.heap.size, 3, none⟩ (.int .i64 dr)).setCell ⟨w.heap.size, 4, none⟩ (.int .i64 bdr) = V at *
    have d0 := HX3.out.cell 0 rfl
    have d1 := HX3.out.cell 1 rfl
    have d2 := HX3.out.cell 2 rfl
    have d3 := HX3.out.cell 3 rfl
    have d4 := HX3.out.cell 4 rfl
    go_wp2_with fail
    refine (CS V HB3.out).mono ?_
    rintro e w3 ⟨rfl, hb⟩
    have HB4 : Hid (Below w.heap.size w w3) := below_more HB3.out hb HB3.out.size
    clear hb
    go_wp2
    go_ret2
    exact ⟨rfl, HB4.out⟩
end Go.Proofs.Ytioimebfenklkaa
