/- Heads read from bytes. -/
import Derived.Test.YtoanjhccbmifmaaDoorS5W14
import Derived.Test.YtoanjhccbmifmaaDoorWN
namespace Go.Proofs.YtoanjhccbmifmaaDoor
open Go.RowKit

set_option maxHeartbeats 800000 in
theorem number_two (b off cap : Nat) (x0 x1 : Int) (w : World) (h0 : w.cell? ⟨b, off, none⟩ = some (.int .u8 x0)) (h1 : w.cell? ⟨b, off + 1, none⟩ = some (.int .u8 x1))
    (b0 : 0 ≤ x0 ∧ x0 ≤ 255) (b1 : 0 ≤ x1 ∧ x1 ≤ 255) :
    Calls Tryd.prog 74 #[.slice (some ⟨b, off, none⟩) 2 cap] w fun e w' => e = .returned (.int .i64 (x0 * 256 + x1)) ∧ w' = w := by
  have e0 : bits .or .i64 0 x0 = x0 := by have := or_byte 0 x0 (by omega) (by omega) b0.1 b0.2; simpa using this
  have e1 := or_byte x0 x1 (by omega) (by omega) b1.1 b1.2
  go_enter Tryd.func74, Tryd.ntmps74
  go_wp2
  refine wp_loop_rounds 3 ?_
  rw [rounds_succ]
  go_wp2
  rw [rounds_succ]
  go_wp2
  rw [rounds_succ]
  go_wp2
  go_ret
  exact ⟨rfl, rfl⟩
theorem wnum_2 (b off n cap k K : Nat) (zs : List Int) (W : World) (hK : K = off + k) (hc : ∀ i, i < n → W.cell? ⟨b, off + i, none⟩ = some (.int .u8 (zs.getD i 0))) (hz : AreBytes zs) (hk : k + 2 ≤ n) :
    Calls Tryd.prog 74 #[.slice (some ⟨b, K, none⟩) 2 cap] W fun e w' => e = .returned (.int .i64 (num2At zs k)) ∧ w' = W := by
  subst hK
  exact number_two b (off + k) cap _ _ W (hc k (by omega)) (hc (k + 1) (by omega)) (areBytes_getD hz _) (areBytes_getD hz _)
theorem wnum_4 (b off n cap k K : Nat) (zs : List Int) (W : World) (hK : K = off + k) (hc : ∀ i, i < n → W.cell? ⟨b, off + i, none⟩ = some (.int .u8 (zs.getD i 0))) (hz : AreBytes zs) (hk : k + 4 ≤ n) :
    Calls Tryd.prog 74 #[.slice (some ⟨b, K, none⟩) 4 cap] W fun e w' => e = .returned (.int .i64 (num4At zs k)) ∧ w' = W := by
  subst hK
  exact number_four b (off + k) cap _ _ _ _ W (hc k (by omega)) (hc (k + 1) (by omega)) (hc (k + 2) (by omega)) (hc (k + 3) (by omega)) (areBytes_getD hz _) (areBytes_getD hz _) (areBytes_getD hz _) (areBytes_getD hz _)
/-- The number that m bytes (2 or 4) tell at the place K of those that begin at off. -/
def numOf (zs : List Int) (off K m : Nat) : Int := if m = 2 then num2At zs (K - off) else num4At zs (K - off)
theorem wnum_at (b off n cap K m : Nat) (zs : List Int) (W : World) (hc : ∀ i, i < n → W.cell? ⟨b, off + i, none⟩ = some (.int .u8 (zs.getD i 0))) (hz : AreBytes zs) (hK : off ≤ K ∧ K - off + m ≤ n ∧ (m = 2 ∨ m = 4)) :
    Calls Tryd.prog 74 #[.slice (some ⟨b, K, none⟩) m cap] W fun e w' => e = .returned (.int .i64 (numOf zs off K m)) ∧ w' = W := by
  obtain ⟨h1, h2, rfl | rfl⟩ := hK
  · exact wnum_2 b off n cap (K - off) K zs W (by omega) hc hz h2
  · exact wnum_4 b off n cap (K - off) K zs W (by omega) hc hz h2
theorem numOf_2 (zs : List Int) (off k : Nat) : numOf zs off (off + k) 2 = num2At zs k := by unfold numOf; rw [if_pos rfl, Nat.add_sub_cancel_left]
theorem numOf_4 (zs : List Int) (off k : Nat) : numOf zs off (off + k) 4 = num4At zs k := by unfold numOf; rw [if_neg (by decide), Nat.add_sub_cancel_left]
theorem numOf_0 (zs : List Int) (off : Nat) : numOf zs off off 2 = num2At zs 0 := numOf_2 zs off 0
def seqZ (n : Int) : Int := if 2147483648 ≤ n then n - 4294967296 else n
def readHZ (zs : List Int) : HeadZ := ⟨num2At zs 0, zs.getD 3 0, num4At zs 4, num4At zs 8, seqZ (num4At zs 12), num2At zs 16, num2At zs 18⟩
theorem keep_put7 {w x : World} {p : Addr} {v : Value} {N : Nat} (h : x.cell? p = some v ∧ Hid (Below N w x)) (hp : p.block < N) (v0 v1 v2 v3 v4 v5 v6 : Value) : (((((((x.setCell ⟨N, 0, none⟩ v0).setCell ⟨N, 1, none⟩ v1).setCell ⟨N, 2, none⟩ v2).setCell ⟨N, 3, none⟩ v3).setCell ⟨N, 4, none⟩ v4).setCell ⟨N, 5, none⟩ v5).setCell ⟨N, 6, none⟩ v6).cell? p = some v ∧ Hid (Below N w (((((((x.setCell ⟨N, 0, none⟩ v0).setCell ⟨N, 1, none⟩ v1).setCell ⟨N, 2, none⟩ v2).setCell ⟨N, 3, none⟩ v3).setCell ⟨N, 4, none⟩ v4).setCell ⟨N, 5, none⟩ v5).setCell ⟨N, 6, none⟩ v6)) :=
  ⟨by rw [(below_put7 (Below.refl N x) (Nat.le_refl _) v0 v1 v2 v3 v4 v5 v6).cell hp]; exact h.1, below_put7 h.2.out (Nat.le_refl _) v0 v1 v2 v3 v4 v5 v6⟩
theorem keep_dr {w x : World} {p : Addr} {v : Value} {N : Nat} (h : x.cell? p = some v ∧ Hid (Below N w x)) : x.drew.cell? p = some v ∧ Hid (Below N w x.drew) := ⟨h.1, h.2.out.drew⟩
theorem num4At_bd {zs : List Int} (h : AreBytes zs) (k : Nat) : 0 ≤ num4At zs k ∧ num4At zs k ≤ 4294967295 := num4_bd _ _ _ _ (areBytes_getD h _) (areBytes_getD h _) (areBytes_getD h _) (areBytes_getD h _)
theorem wrap32 (n : Int) (h0 : 0 ≤ n) (h1 : n ≤ 4294967295) : IntKind.i32.wrap n = seqZ n := by
  unfold seqZ; rw [IntKind.wrap_i32]; split <;> omega
set_option maxHeartbeats 3200000 in
set_option maxRecDepth 20000 in
theorem readHead_any (b off n cap : Nat) (zs : List Int) (w : World) (hc : ∀ i, i < n → w.cell? ⟨b, off + i, none⟩ = some (.int .u8 (zs.getD i 0))) (hz : AreBytes zs) (hn : 20 ≤ n) (hm : n ≤ 140737488355328) (hcap : n ≤ cap) :
    Calls Tryd.prog 51 #[.slice (some ⟨b, off, none⟩) n cap] w fun e w' => e = .returned (.agg (headA (readHZ zs))) ∧ Below w.heap.size w w' := by
  have hb : b < w.heap.size := by
    rcases Nat.lt_or_ge b w.heap.size with h | h
    · exact h
    · have := hc 0 (by omega); simp [World.cell?, Array.getElem?_eq_none h] at this
  have HC : Hid (∀ i, i < n → (w.alloc (.cells zero7.toArray 23)).drew.cell? ⟨b, off + i, none⟩ = some (.int .u8 (zs.getD i 0))) := fun i hi => by
    show (w.alloc (.cells zero7.toArray 23)).cell? _ = _
    rw [World.cell?_alloc_lt _ _ ⟨b, off + i, none⟩ hb]; exact hc i hi
  have c3 : (w.alloc (.cells zero7.toArray 23)).cell? ⟨b, off + 3, none⟩ = some (.int .u8 (zs.getD 3 0)) := HC.out 3 (by omega)
  have b3 := areBytes_getD hz 3
  obtain ⟨z3, hz3⟩ : ∃ z3, zs.getD 3 0 = z3 := ⟨_, rfl⟩
  have HZ3 : Hid (zs.getD 3 0 = z3) := hz3
  rw [hz3] at c3 b3
  clear hz3
  have HZ : Hid (AreBytes zs) := hz
  have HV : Hid (Var (w.alloc (.cells zero7.toArray 23)) w.heap.size zero7) := var_new w zero7 _
  have HB : Hid (Below w.heap.size w (w.alloc (.cells zero7.toArray 23))) := below_new' _ _
  have HLT : Hid (b < w.heap.size) := hb
  clear hc hz hb
  go_enter Tryd.func51, Tryd.ntmps51
  go_upto_region 1 with fail
  generalize w.alloc (.cells zero7.toArray 23) = W at *
  have r0 := HV.out.cell 0 rfl
  have q0 := HV.out.frozen 0
  have r1 := HV.out.cell 1 rfl
  have q1 := HV.out.frozen 1
  have r2 := HV.out.cell 2 rfl
  have q2 := HV.out.frozen 2
  have r3 := HV.out.cell 3 rfl
  have q3 := HV.out.frozen 3
  have r4 := HV.out.cell 4 rfl
  have q4 := HV.out.frozen 4
  have r5 := HV.out.cell 5 rfl
  have q5 := HV.out.frozen 5
  have r6 := HV.out.cell 6 rfl
  have q6 := HV.out.frozen 6
  have hbs : b < w.heap.size := HLT.out
  have i3 : (3 : Int) < (n : Int) := by omega
  have k4 : ¬ cap = 4 := by omega
  have k8 : ¬ cap = 8 := by omega
  have k12 : ¬ cap = 12 := by omega
  have k16 : ¬ cap = 16 := by omega
  have k18 : ¬ cap = 18 := by omega
  have j2 : (2 : Int) ≤ (cap : Int) := by omega
  have j8 : (8 : Int) ≤ (cap : Int) := by omega
  have j12 : (12 : Int) ≤ (cap : Int) := by omega
  have j16 : (16 : Int) ≤ (cap : Int) := by omega
  have j18 : (18 : Int) ≤ (cap : Int) := by omega
  have j20 : (20 : Int) ≤ (cap : Int) := by omega
  have t3 : IntKind.i64.wrap z3 = z3 := by rw [IntKind.wrap_i64]; omega
  have t12 : Hid (IntKind.i64.wrap (IntKind.i32.wrap (numOf zs off (off + 12) 4)) = seqZ (num4At zs 12)) := by
    show _ = _
    rw [numOf_4]
    have := num4At_bd HZ.out 12
    rw [wrap32 _ this.1 this.2, IntKind.wrap_i64]
    unfold seqZ; split <;> omega
  go_region_held3 (fun x => x.cell? ⟨b, off + 3, none⟩ = some (.int .u8 z3) ∧ Hid (Below w.heap.size w x)) (with_reducible first | exact ⟨c3, HB⟩ | exact keep_dr ⟨c3, HB⟩ | exact keep_dr (keep_put7 ⟨c3, HB⟩ hbs _ _ _ _ _ _ _) | exact keep_put7 ⟨c3, HB⟩ hbs _ _ _ _ _ _ _ | fail)
    (first | (go_at_call 74; refine (wnum_at b off n _ _ _ zs _ HC.out HZ.out (by omega)).mono ?_; rintro e w' ⟨rfl, rfl⟩) | fail)
  rename_i hH
  have HZZ : Hid (Var (((((((W.setCell ⟨w.heap.size, 0, none⟩ (.int .i64 (numOf zs off off 2))).setCell ⟨w.heap.size, 1, none⟩ (.int .i64 z3)).setCell ⟨w.heap.size, 2, none⟩ (.int .i64 (numOf zs off (off + 4) 4))).setCell ⟨w.heap.size, 3, none⟩ (.int .i64 (numOf zs off (off + 8) 4))).setCell ⟨w.heap.size, 4, none⟩ (.int .i64 (IntKind.i64.wrap (IntKind.i32.wrap (numOf zs off (off + 12) 4))))).setCell ⟨w.heap.size, 5, none⟩ (.int .i64 (numOf zs off (off + 16) 2))).setCell ⟨w.heap.size, 6, none⟩ (.int .i64 (numOf zs off (off + 18) 2))) w.heap.size _) := HV.out.put7 (.int .i64 (numOf zs off off 2)) (.int .i64 z3) (.int .i64 (numOf zs off (off + 4) 4)) (.int .i64 (numOf zs off (off + 8) 4)) (.int .i64 (IntKind.i64.wrap (IntKind.i32.wrap (numOf zs off (off + 12) 4)))) (.int .i64 (numOf zs off (off + 16) 2)) (.int .i64 (numOf zs off (off + 18) 2))
  have HK : Hid (Below w.heap.size w (((((((W.setCell ⟨w.heap.size, 0, none⟩ (.int .i64 (numOf zs off off 2))).setCell ⟨w.heap.size, 1, none⟩ (.int .i64 z3)).setCell ⟨w.heap.size, 2, none⟩ (.int .i64 (numOf zs off (off + 4) 4))).setCell ⟨w.heap.size, 3, none⟩ (.int .i64 (numOf zs off (off + 8) 4))).setCell ⟨w.heap.size, 4, none⟩ (.int .i64 (IntKind.i64.wrap (IntKind.i32.wrap (numOf zs off (off + 12) 4))))).setCell ⟨w.heap.size, 5, none⟩ (.int .i64 (numOf zs off (off + 16) 2))).setCell ⟨w.heap.size, 6, none⟩ (.int .i64 (numOf zs off (off + 18) 2))).drew) := hH.2
  have HR : Hid (headA (readHZ zs) = #[.int .i64 (numOf zs off off 2), .int .i64 z3, .int .i64 (numOf zs off (off + 4) 4), .int .i64 (numOf zs off (off + 8) 4), .int .i64 (IntKind.i64.wrap (IntKind.i32.wrap (numOf zs off (off + 12) 4))), .int .i64 (numOf zs off (off + 16) 2), .int .i64 (numOf zs off (off + 18) 2)]) := by
    show _ = _
    rw [numOf_0, numOf_4, numOf_4, numOf_2, numOf_2, t12.out, ← HZ3.out]
    rfl
  clear hH r0 q0 r1 q1 r2 q2 r3 q3 r4 q4 r5 q5 r6 q6
  generalize (((((((W.setCell ⟨w.heap.size, 0, none⟩ (.int .i64 (numOf zs off off 2))).setCell ⟨w.heap.size, 1, none⟩ (.int .i64 z3)).setCell ⟨w.heap.size, 2, none⟩ (.int .i64 (numOf zs off (off + 4) 4))).setCell ⟨w.heap.size, 3, none⟩ (.int .i64 (numOf zs off (off + 8) 4))).setCell ⟨w.heap.size, 4, none⟩ (.int .i64 (IntKind.i64.wrap (IntKind.i32.wrap (numOf zs off (off + 12) 4))))).setCell ⟨w.heap.size, 5, none⟩ (.int .i64 (numOf zs off (off + 16) 2))).setCell ⟨w.heap.size, 6, none⟩ (.int .i64 (numOf zs off (off + 18) 2))) = Z at *
  replace HZZ : Hid (Var Z.drew w.heap.size _) := HZZ.out.drew
  generalize Z.drew = Y at *
  have r0 := HZZ.out.cell 0 rfl
  have r1 := HZZ.out.cell 1 rfl
  have r2 := HZZ.out.cell 2 rfl
  have r3 := HZZ.out.cell 3 rfl
  have r4 := HZZ.out.cell 4 rfl
  have r5 := HZZ.out.cell 5 rfl
  have r6 := HZZ.out.cell 6 rfl
  go_wp2
  refine bodyPost_ret (by simp [results, Tryd.results51, go_sem, r0, r1, r2, r3, r4, r5, r6]; try rfl) rfl ?_
  exact ⟨by rw [HR.out], HK.out⟩
end Go.Proofs.YtoanjhccbmifmaaDoor
