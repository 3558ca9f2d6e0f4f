/- Links and vertices read from bytes. -/
import Derived.Test.YtoanjhccbmifmaaDoorS5W16
namespace Go.Proofs.YtoanjhccbmifmaaDoor
open Go.RowKit

theorem Var.put4 {w : World} {b : Nat} {a0 a1 a2 a3 : Value} (h : Var w b [a0, a1, a2, a3]) (v0 v1 v2 v3 : Value) : Var ((((w.setCell ⟨b, 0, none⟩ v0).setCell ⟨b, 1, none⟩ v1).setCell ⟨b, 2, none⟩ v2).setCell ⟨b, 3, none⟩ v3) b [v0, v1, v2, v3] :=
  h |>.set 0 v0 |>.set 1 v1 |>.set 2 v2 |>.set 3 v3
theorem below_put4 {w0 w : World} {N b : Nat} (h : Below N w0 w) (hb : N ≤ b) (v0 v1 v2 v3 : Value) : Below N w0 ((((w.setCell ⟨b, 0, none⟩ v0).setCell ⟨b, 1, none⟩ v1).setCell ⟨b, 2, none⟩ v2).setCell ⟨b, 3, none⟩ v3) := by
  have hx : ∀ i, N ≤ (⟨b, i, none⟩ : Addr).block := fun _ => hb
  exact h |>.setCell (hx 0) v0 |>.setCell (hx 1) v1 |>.setCell (hx 2) v2 |>.setCell (hx 3) v3
theorem keep_put4 {w x : World} {p : Addr} {v : Value} {N : Nat} (h : x.cell? p = some v ∧ Hid (Below N w x)) (hp : p.block < N) (v0 v1 v2 v3 : Value) : ((((x.setCell ⟨N, 0, none⟩ v0).setCell ⟨N, 1, none⟩ v1).setCell ⟨N, 2, none⟩ v2).setCell ⟨N, 3, none⟩ v3).cell? p = some v ∧ Hid (Below N w ((((x.setCell ⟨N, 0, none⟩ v0).setCell ⟨N, 1, none⟩ v1).setCell ⟨N, 2, none⟩ v2).setCell ⟨N, 3, none⟩ v3)) :=
  ⟨by rw [(below_put4 (Below.refl N x) (Nat.le_refl _) v0 v1 v2 v3).cell hp]; exact h.1, below_put4 h.2.out (Nat.le_refl _) v0 v1 v2 v3⟩
theorem Var.put2 {w : World} {b : Nat} {a0 a1 : Value} (h : Var w b [a0, a1]) (v0 v1 : Value) : Var ((w.setCell ⟨b, 0, none⟩ v0).setCell ⟨b, 1, none⟩ v1) b [v0, v1] :=
  h |>.set 0 v0 |>.set 1 v1
theorem below_put2 {w0 w : World} {N b : Nat} (h : Below N w0 w) (hb : N ≤ b) (v0 v1 : Value) : Below N w0 ((w.setCell ⟨b, 0, none⟩ v0).setCell ⟨b, 1, none⟩ v1) := by
  have hx : ∀ i, N ≤ (⟨b, i, none⟩ : Addr).block := fun _ => hb
  exact h |>.setCell (hx 0) v0 |>.setCell (hx 1) v1
theorem keep_put2 {w x : World} {p : Addr} {v : Value} {N : Nat} (h : x.cell? p = some v ∧ Hid (Below N w x)) (hp : p.block < N) (v0 v1 : Value) : ((x.setCell ⟨N, 0, none⟩ v0).setCell ⟨N, 1, none⟩ v1).cell? p = some v ∧ Hid (Below N w ((x.setCell ⟨N, 0, none⟩ v0).setCell ⟨N, 1, none⟩ v1)) :=
  ⟨by rw [(below_put2 (Below.refl N x) (Nat.le_refl _) v0 v1).cell hp]; exact h.1, below_put2 h.2.out (Nat.le_refl _) v0 v1⟩

def readLZ (zs : List Int) : LinkZ := ⟨zs.getD 8 0, num4At zs 0, num4At zs 4, num2At zs 10⟩
def readVZ (zs : List Int) : VertZ := ⟨num4At zs 0, num4At zs 4⟩
theorem numOf_04 (zs : List Int) (off : Nat) : numOf zs off off 4 = num4At zs 0 := numOf_4 zs off 0
set_option maxHeartbeats 3200000 in
set_option maxRecDepth 20000 in
theorem readLink_any (b off cap : Nat) (zs : List Int) (w : World) (hc : ∀ i, i < 12 → w.cell? ⟨b, off + i, none⟩ = some (.int .u8 (zs.getD i 0))) (hz : AreBytes zs) (hcap : 12 ≤ cap) :
    Calls Tryd.prog 88 #[.slice (some ⟨b, off, none⟩) 12 cap] w fun e w' => e = .returned (.agg (linkC (readLZ zs)).toArray) ∧ Below w.heap.size w w' := by
  have hb : b < w.heap.size := by
    rcases Nat.lt_or_ge b w.heap.size with h | h
    · exact h
    · have := hc 0 (by omega); simp [World.cell?, Array.getElem?_eq_none h] at this
  have HC : Hid (∀ i, i < 12 → (w.alloc (.cells #[.int .i64 0, .int .i64 0, .int .i64 0, .int .i64 0] 68)).drew.cell? ⟨b, off + i, none⟩ = some (.int .u8 (zs.getD i 0))) := fun i hi => by
    show (w.alloc (.cells #[.int .i64 0, .int .i64 0, .int .i64 0, .int .i64 0] 68)).cell? _ = _
    rw [World.cell?_alloc_lt _ _ ⟨b, off + i, none⟩ hb]; exact hc i hi
  have c8 : (w.alloc (.cells #[.int .i64 0, .int .i64 0, .int .i64 0, .int .i64 0] 68)).cell? ⟨b, off + 8, none⟩ = some (.int .u8 (zs.getD 8 0)) := HC.out 8 (by omega)
  have b8 := areBytes_getD hz 8
  obtain ⟨z8, hz8⟩ : ∃ z8, zs.getD 8 0 = z8 := ⟨_, rfl⟩
  have HZ8 : Hid (zs.getD 8 0 = z8) := hz8
  rw [hz8] at c8 b8
  clear hz8
  have HZ : Hid (AreBytes zs) := hz
  have HV : Hid (Var (w.alloc (.cells #[.int .i64 0, .int .i64 0, .int .i64 0, .int .i64 0] 68)) w.heap.size [.int .i64 0, .int .i64 0, .int .i64 0, .int .i64 0]) := var_new w [.int .i64 0, .int .i64 0, .int .i64 0, .int .i64 0] _
  have HB : Hid (Below w.heap.size w (w.alloc (.cells #[.int .i64 0, .int .i64 0, .int .i64 0, .int .i64 0] 68))) := below_new' _ _
  have HLT : Hid (b < w.heap.size) := hb
  clear hc hz hb
  go_enter Tryd.func88, Tryd.ntmps88
  go_upto_region 1 with fail
  generalize (w.alloc (.cells #[.int .i64 0, .int .i64 0, .int .i64 0, .int .i64 0] 68)) = W at *
  have r0 := HV.out.cell 0 rfl
  have q0 := HV.out.frozen 0
  have r1 := HV.out.cell 1 rfl
  have q1 := HV.out.frozen 1
  have r2 := HV.out.cell 2 rfl
  have q2 := HV.out.frozen 2
  have r3 := HV.out.cell 3 rfl
  have q3 := HV.out.frozen 3
  have hbs : b < w.heap.size := HLT.out
  have k4 : ¬ cap = 4 := by omega
  have k10 : ¬ cap = 10 := by omega
  have j4 : (4 : Int) ≤ (cap : Int) := by omega
  have j8 : (8 : Int) ≤ (cap : Int) := by omega
  have t8 : IntKind.i64.wrap z8 = z8 := by rw [IntKind.wrap_i64]; omega
  go_region_held3 (fun x => x.cell? ⟨b, off + 8, none⟩ = some (.int .u8 z8) ∧ Hid (Below w.heap.size w x)) (with_reducible first | exact ⟨c8, HB⟩ | exact keep_dr ⟨c8, HB⟩ | exact keep_dr (keep_put4 ⟨c8, HB⟩ hbs _ _ _ _) | exact keep_put4 ⟨c8, HB⟩ hbs _ _ _ _ | fail)
    (first | (go_at_call 74; refine (wnum_at b off 12 _ _ _ zs _ HC.out HZ.out (by omega)).mono ?_; rintro e w' ⟨rfl, rfl⟩) | fail)
  rename_i hH
  have HZZ : Hid (Var ((((W.setCell ⟨w.heap.size, 0, none⟩ (.int .i64 z8)).setCell ⟨w.heap.size, 1, none⟩ (.int .i64 (numOf zs off off 4))).setCell ⟨w.heap.size, 2, none⟩ (.int .i64 (numOf zs off (off + 4) 4))).setCell ⟨w.heap.size, 3, none⟩ (.int .i64 (numOf zs off (off + 10) 2))) w.heap.size _) := HV.out.put4 (.int .i64 z8) (.int .i64 (numOf zs off off 4)) (.int .i64 (numOf zs off (off + 4) 4)) (.int .i64 (numOf zs off (off + 10) 2))
  have HK : Hid (Below w.heap.size w ((((W.setCell ⟨w.heap.size, 0, none⟩ (.int .i64 z8)).setCell ⟨w.heap.size, 1, none⟩ (.int .i64 (numOf zs off off 4))).setCell ⟨w.heap.size, 2, none⟩ (.int .i64 (numOf zs off (off + 4) 4))).setCell ⟨w.heap.size, 3, none⟩ (.int .i64 (numOf zs off (off + 10) 2))).drew) := hH.2
  have HR : Hid ((linkC (readLZ zs)).toArray = #[.int .i64 z8, .int .i64 (numOf zs off off 4), .int .i64 (numOf zs off (off + 4) 4), .int .i64 (numOf zs off (off + 10) 2)]) := by
    show _ = _
    rw [numOf_04, numOf_4, numOf_2, ← HZ8.out]; rfl
  clear hH r0 q0 r1 q1 r2 q2 r3 q3
  generalize ((((W.setCell ⟨w.heap.size, 0, none⟩ (.int .i64 z8)).setCell ⟨w.heap.size, 1, none⟩ (.int .i64 (numOf zs off off 4))).setCell ⟨w.heap.size, 2, none⟩ (.int .i64 (numOf zs off (off + 4) 4))).setCell ⟨w.heap.size, 3, none⟩ (.int .i64 (numOf zs off (off + 10) 2))) = Z at *
  replace HZZ : Hid (Var Z.drew w.heap.size _) := HZZ.out.drew
  generalize Z.drew = Y at *
  have r0 := HZZ.out.cell 0 rfl
  have r1 := HZZ.out.cell 1 rfl
  have r2 := HZZ.out.cell 2 rfl
  have r3 := HZZ.out.cell 3 rfl
  go_wp2
  refine bodyPost_ret (by simp [results, Tryd.results88, go_sem, r0, r1, r2, r3]; try rfl) rfl ?_
  exact ⟨by rw [HR.out], HK.out⟩
set_option maxHeartbeats 3200000 in
set_option maxRecDepth 20000 in
theorem readVert_any (b off cap : Nat) (zs : List Int) (w : World) (hc : ∀ i, i < 8 → w.cell? ⟨b, off + i, none⟩ = some (.int .u8 (zs.getD i 0))) (hz : AreBytes zs) (hcap : 8 ≤ cap) :
    Calls Tryd.prog 92 #[.slice (some ⟨b, off, none⟩) 8 cap] w fun e w' => e = .returned (.agg (vertC (readVZ zs)).toArray) ∧ Below w.heap.size w w' := by
  have hb : b < w.heap.size := by
    rcases Nat.lt_or_ge b w.heap.size with h | h
    · exact h
    · have := hc 0 (by omega); simp [World.cell?, Array.getElem?_eq_none h] at this
  have HC : Hid (∀ i, i < 8 → (w.alloc (.cells #[.int .i64 0, .int .i64 0] 58)).drew.cell? ⟨b, off + i, none⟩ = some (.int .u8 (zs.getD i 0))) := fun i hi => by
    show (w.alloc (.cells #[.int .i64 0, .int .i64 0] 58)).cell? _ = _
    rw [World.cell?_alloc_lt _ _ ⟨b, off + i, none⟩ hb]; exact hc i hi
  have c8 : (w.alloc (.cells #[.int .i64 0, .int .i64 0] 58)).cell? ⟨b, off + 0, none⟩ = some (.int .u8 (zs.getD 0 0)) := HC.out 0 (by omega)
  have HZ : Hid (AreBytes zs) := hz
  have HV : Hid (Var (w.alloc (.cells #[.int .i64 0, .int .i64 0] 58)) w.heap.size [.int .i64 0, .int .i64 0]) := var_new w [.int .i64 0, .int .i64 0] _
  have HB : Hid (Below w.heap.size w (w.alloc (.cells #[.int .i64 0, .int .i64 0] 58))) := below_new' _ _
  have HLT : Hid (b < w.heap.size) := hb
  clear hc hz hb
  go_enter Tryd.func92, Tryd.ntmps92
  go_upto_region 1 with fail
  generalize (w.alloc (.cells #[.int .i64 0, .int .i64 0] 58)) = W at *
  have r0 := HV.out.cell 0 rfl
  have q0 := HV.out.frozen 0
  have r1 := HV.out.cell 1 rfl
  have q1 := HV.out.frozen 1
  have hbs : b < w.heap.size := HLT.out
  have k4 : ¬ cap = 4 := by omega
  have j4 : (4 : Int) ≤ (cap : Int) := by omega
  go_region_held3 (fun x => x.cell? ⟨b, off + 0, none⟩ = some (.int .u8 (zs.getD 0 0)) ∧ Hid (Below w.heap.size w x)) (with_reducible first | exact ⟨c8, HB⟩ | exact keep_dr ⟨c8, HB⟩ | exact keep_dr (keep_put2 ⟨c8, HB⟩ hbs _ _) | exact keep_put2 ⟨c8, HB⟩ hbs _ _ | fail)
    (first | (go_at_call 74; refine (wnum_at b off 8 _ _ _ zs _ HC.out HZ.out (by omega)).mono ?_; rintro e w' ⟨rfl, rfl⟩) | fail)
  rename_i hH
  have HZZ : Hid (Var ((W.setCell ⟨w.heap.size, 0, none⟩ (.int .i64 (numOf zs off off 4))).setCell ⟨w.heap.size, 1, none⟩ (.int .i64 (numOf zs off (off + 4) 4))) w.heap.size _) := HV.out.put2 (.int .i64 (numOf zs off off 4)) (.int .i64 (numOf zs off (off + 4) 4))
  have HK : Hid (Below w.heap.size w ((W.setCell ⟨w.heap.size, 0, none⟩ (.int .i64 (numOf zs off off 4))).setCell ⟨w.heap.size, 1, none⟩ (.int .i64 (numOf zs off (off + 4) 4))).drew) := hH.2
  have HR : Hid ((vertC (readVZ zs)).toArray = #[.int .i64 (numOf zs off off 4), .int .i64 (numOf zs off (off + 4) 4)]) := by
    show _ = _
    rw [numOf_04, numOf_4]; rfl
  clear hH r0 q0 r1 q1
  generalize ((W.setCell ⟨w.heap.size, 0, none⟩ (.int .i64 (numOf zs off off 4))).setCell ⟨w.heap.size, 1, none⟩ (.int .i64 (numOf zs off (off + 4) 4))) = Z at *
  replace HZZ : Hid (Var Z.drew w.heap.size _) := HZZ.out.drew
  generalize Z.drew = Y at *
  have r0 := HZZ.out.cell 0 rfl
  have r1 := HZZ.out.cell 1 rfl
  go_wp2
  refine bodyPost_ret (by simp [results, Tryd.results92, go_sem, r0, r1]; try rfl) rfl ?_
  exact ⟨by rw [HR.out], HK.out⟩
end Go.Proofs.YtoanjhccbmifmaaDoor
