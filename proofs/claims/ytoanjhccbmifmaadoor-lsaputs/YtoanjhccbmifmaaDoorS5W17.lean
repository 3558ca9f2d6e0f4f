/- GetHead. -/
import Derived.Test.YtoanjhccbmifmaaDoorS5W16
namespace Go.Proofs.YtoanjhccbmifmaaDoor
open Go.RowKit

def zeroH : HeadZ := ⟨0, 0, 0, 0, 0, 0, 0⟩
def gotHB (ys : List Int) : Bool := decide (20 ≤ ys.length) && (ys.getD 2 0 == 0)
def GotHead (ys : List Int) : Ending := .returned (.tuple #[.agg (headA (if gotHB ys = true then readHZ ys else zeroH)), .bool (gotHB ys)])
theorem got_not {ys : List Int} (h : gotHB ys = false) : GotHead ys = .returned (.tuple #[.agg #[.int .i64 0, .int .i64 0, .int .i64 0, .int .i64 0, .int .i64 0, .int .i64 0, .int .i64 0], .bool false]) := by
  unfold GotHead; rw [h]; rfl
theorem got_yes {ys : List Int} (h : gotHB ys = true) : GotHead ys = .returned (.tuple #[.agg (headA (readHZ ys)), .bool true]) := by
  unfold GotHead; rw [h, if_pos rfl]
set_option maxHeartbeats 1600000 in
theorem getHead_any (a : Option Addr) (n cap : Nat) (zs : List Int) (p : Int) (w : World) (hn : n = zs.length) (hS : Slice w a cap zs) :
    Calls Tryd.prog 25 #[.slice a n cap, .int .i64 p] w fun e w' => e = GotHead (fromZ zs p) ∧ Below w.heap.size w w' := by
  have HV : Hid (Var (w.alloc (.cells zero7.toArray 23)) w.heap.size zero7) := var_new w zero7 _
  have HB : Hid (Below w.heap.size w (w.alloc (.cells zero7.toArray 23))) := below_new' _ _
  have hfr := fun W hW => from_any a n cap zs p W hn hW
  have HS : Hid (Slice w a cap zs) := hS
  clear hn hS
  generalize fromZ zs p = ys at *
  go_enter Tryd.func25, Tryd.ntmps25
  go_upto_region 1 with fail
  generalize w.alloc (.cells zero7.toArray 23) = W at *
  go_wp2_with fail
  refine (hfr _ (HS.out.below HB.out)).mono ?_
  rintro e w1 ⟨⟨a1, c1, rfl, hs1⟩, hq⟩
  subst w1
  clear hfr HS
  have hl1 := hs1.len
  by_cases h20 : ys.length < 20
  · have HR : Hid (_ = _) := got_not (ys := ys) (by unfold gotHB; rw [decide_eq_false (by omega)]; rfl)
    clear hs1
    have r0 := HV.out.cell 0 rfl
    have q0 := HV.out.frozen 0
    have r1 := HV.out.cell 1 rfl
    have q1 := HV.out.frozen 1
    have r2 := HV.out.cell 2 rfl
    have q2 := HV.out.frozen 2
    have r3 := HV.out.cell 3 rfl
    have q3 := HV.out.frozen 3
    have r4 := HV.out.cell 4 rfl
    have q4 := HV.out.frozen 4
    have r5 := HV.out.cell 5 rfl
    have q5 := HV.out.frozen 5
    have r6 := HV.out.cell 6 rfl
    have q6 := HV.out.frozen 6
    go_wp2
    have HZZ : Hid (Var (((((((W.setCell ⟨w.heap.size, 0, none⟩ (.int .i64 0)).setCell ⟨w.heap.size, 1, none⟩ (.int .i64 0)).setCell ⟨w.heap.size, 2, none⟩ (.int .i64 0)).setCell ⟨w.heap.size, 3, none⟩ (.int .i64 0)).setCell ⟨w.heap.size, 4, none⟩ (.int .i64 0)).setCell ⟨w.heap.size, 5, none⟩ (.int .i64 0)).setCell ⟨w.heap.size, 6, none⟩ (.int .i64 0)) w.heap.size _) := HV.out.put7 (.int .i64 0) (.int .i64 0) (.int .i64 0) (.int .i64 0) (.int .i64 0) (.int .i64 0) (.int .i64 0)
    have HK : Hid (Below w.heap.size w (((((((W.setCell ⟨w.heap.size, 0, none⟩ (.int .i64 0)).setCell ⟨w.heap.size, 1, none⟩ (.int .i64 0)).setCell ⟨w.heap.size, 2, none⟩ (.int .i64 0)).setCell ⟨w.heap.size, 3, none⟩ (.int .i64 0)).setCell ⟨w.heap.size, 4, none⟩ (.int .i64 0)).setCell ⟨w.heap.size, 5, none⟩ (.int .i64 0)).setCell ⟨w.heap.size, 6, none⟩ (.int .i64 0))) := below_put7 HB.out (Nat.le_refl _) (.int .i64 0) (.int .i64 0) (.int .i64 0) (.int .i64 0) (.int .i64 0) (.int .i64 0) (.int .i64 0)
    clear r0 q0 r1 q1 r2 q2 r3 q3 r4 q4 r5 q5 r6 q6
    generalize (((((((W.setCell ⟨w.heap.size, 0, none⟩ (.int .i64 0)).setCell ⟨w.heap.size, 1, none⟩ (.int .i64 0)).setCell ⟨w.heap.size, 2, none⟩ (.int .i64 0)).setCell ⟨w.heap.size, 3, none⟩ (.int .i64 0)).setCell ⟨w.heap.size, 4, none⟩ (.int .i64 0)).setCell ⟨w.heap.size, 5, none⟩ (.int .i64 0)).setCell ⟨w.heap.size, 6, none⟩ (.int .i64 0)) = Z at *
    have r0 := HZZ.out.cell 0 rfl
    have r1 := HZZ.out.cell 1 rfl
    have r2 := HZZ.out.cell 2 rfl
    have r3 := HZZ.out.cell 3 rfl
    have r4 := HZZ.out.cell 4 rfl
    have r5 := HZZ.out.cell 5 rfl
    have r6 := HZZ.out.cell 6 rfl
    refine bodyPost_ret (by simp [results, Tryd.results25, go_sem, r0, r1, r2, r3, r4, r5, r6]; try rfl) rfl ?_
    exact ⟨by rw [HR.out], HK.out⟩
  have hcap1 := hs1.room
  obtain ⟨b, off, rfl, hc⟩ := hs1.bts.resolve_left (by rintro rfl; simp at h20)
  have HC : Hid (∀ i, i < ys.length → W.cell? ⟨b, off + i, none⟩ = some (.int .u8 (ys.getD i 0))) := hc
  have HZ : Hid (AreBytes ys) := hs1.bd
  have c2 := hc 2 (by omega)
  obtain ⟨z2, hz2⟩ : ∃ z2, ys.getD 2 0 = z2 := ⟨_, rfl⟩
  rw [hz2] at c2
  clear hc hs1
  cases h2 : (z2 == 0) with
  | false =>
    have HR : Hid (_ = _) := got_not (ys := ys) (by unfold gotHB; rw [hz2, h2]; simp)
    have h2' : (z2 != 0) = true := by rw [bne, h2]; rfl
    clear hz2 h2
    have r0 := HV.out.cell 0 rfl
    have q0 := HV.out.frozen 0
    have r1 := HV.out.cell 1 rfl
    have q1 := HV.out.frozen 1
    have r2 := HV.out.cell 2 rfl
    have q2 := HV.out.frozen 2
    have r3 := HV.out.cell 3 rfl
    have q3 := HV.out.frozen 3
    have r4 := HV.out.cell 4 rfl
    have q4 := HV.out.frozen 4
    have r5 := HV.out.cell 5 rfl
    have q5 := HV.out.frozen 5
    have r6 := HV.out.cell 6 rfl
    have q6 := HV.out.frozen 6
    go_wp2
    have HZZ : Hid (Var (((((((W.setCell ⟨w.heap.size, 0, none⟩ (.int .i64 0)).setCell ⟨w.heap.size, 1, none⟩ (.int .i64 0)).setCell ⟨w.heap.size, 2, none⟩ (.int .i64 0)).setCell ⟨w.heap.size, 3, none⟩ (.int .i64 0)).setCell ⟨w.heap.size, 4, none⟩ (.int .i64 0)).setCell ⟨w.heap.size, 5, none⟩ (.int .i64 0)).setCell ⟨w.heap.size, 6, none⟩ (.int .i64 0)) w.heap.size _) := HV.out.put7 (.int .i64 0) (.int .i64 0) (.int .i64 0) (.int .i64 0) (.int .i64 0) (.int .i64 0) (.int .i64 0)
    have HK : Hid (Below w.heap.size w (((((((W.setCell ⟨w.heap.size, 0, none⟩ (.int .i64 0)).setCell ⟨w.heap.size, 1, none⟩ (.int .i64 0)).setCell ⟨w.heap.size, 2, none⟩ (.int .i64 0)).setCell ⟨w.heap.size, 3, none⟩ (.int .i64 0)).setCell ⟨w.heap.size, 4, none⟩ (.int .i64 0)).setCell ⟨w.heap.size, 5, none⟩ (.int .i64 0)).setCell ⟨w.heap.size, 6, none⟩ (.int .i64 0))) := below_put7 HB.out (Nat.le_refl _) (.int .i64 0) (.int .i64 0) (.int .i64 0) (.int .i64 0) (.int .i64 0) (.int .i64 0) (.int .i64 0)
    clear r0 q0 r1 q1 r2 q2 r3 q3 r4 q4 r5 q5 r6 q6
    generalize (((((((W.setCell ⟨w.heap.size, 0, none⟩ (.int .i64 0)).setCell ⟨w.heap.size, 1, none⟩ (.int .i64 0)).setCell ⟨w.heap.size, 2, none⟩ (.int .i64 0)).setCell ⟨w.heap.size, 3, none⟩ (.int .i64 0)).setCell ⟨w.heap.size, 4, none⟩ (.int .i64 0)).setCell ⟨w.heap.size, 5, none⟩ (.int .i64 0)).setCell ⟨w.heap.size, 6, none⟩ (.int .i64 0)) = Z at *
    have r0 := HZZ.out.cell 0 rfl
    have r1 := HZZ.out.cell 1 rfl
    have r2 := HZZ.out.cell 2 rfl
    have r3 := HZZ.out.cell 3 rfl
    have r4 := HZZ.out.cell 4 rfl
    have r5 := HZZ.out.cell 5 rfl
    have r6 := HZZ.out.cell 6 rfl
    refine bodyPost_ret (by simp [results, Tryd.results25, go_sem, r0, r1, r2, r3, r4, r5, r6]; try rfl) rfl ?_
    exact ⟨by rw [HR.out], HK.out⟩
  | true =>
    have HR : Hid (_ = _) := got_yes (ys := ys) (by unfold gotHB; rw [hz2, h2]; simp; omega)
    have h2' : (z2 != 0) = false := by rw [bne, h2]; rfl
    clear hz2 h2
    have hrd := readHead_any b off ys.length c1 ys W HC.out HZ.out (by omega) (by omega) hcap1
    go_wp2_with fail
    refine hrd.mono ?_
    rintro e w2 ⟨rfl, hb⟩
    replace HV : Hid (Var w2 w.heap.size zero7) := HV.out.below hb HV.out.lt
    replace HB : Hid (Below w.heap.size w w2) := below_more HB.out hb HB.out.size
    clear hb hrd c2 HC
    have r0 := HV.out.cell 0 rfl
    have q0 := HV.out.frozen 0
    have r1 := HV.out.cell 1 rfl
    have q1 := HV.out.frozen 1
    have r2 := HV.out.cell 2 rfl
    have q2 := HV.out.frozen 2
    have r3 := HV.out.cell 3 rfl
    have q3 := HV.out.frozen 3
    have r4 := HV.out.cell 4 rfl
    have q4 := HV.out.frozen 4
    have r5 := HV.out.cell 5 rfl
    have q5 := HV.out.frozen 5
    have r6 := HV.out.cell 6 rfl
    have q6 := HV.out.frozen 6
    go_wp2
    have HZZ : Hid (Var (((((((w2.setCell ⟨w.heap.size, 0, none⟩ (.int .i64 (readHZ ys).age)).setCell ⟨w.heap.size, 1, none⟩ (.int .i64 (readHZ ys).kind)).setCell ⟨w.heap.size, 2, none⟩ (.int .i64 (readHZ ys).id)).setCell ⟨w.heap.size, 3, none⟩ (.int .i64 (readHZ ys).adv)).setCell ⟨w.heap.size, 4, none⟩ (.int .i64 (readHZ ys).seq)).setCell ⟨w.heap.size, 5, none⟩ (.int .i64 (readHZ ys).sum)).setCell ⟨w.heap.size, 6, none⟩ (.int .i64 (readHZ ys).len)) w.heap.size _) := HV.out.put7 (.int .i64 (readHZ ys).age) (.int .i64 (readHZ ys).kind) (.int .i64 (readHZ ys).id) (.int .i64 (readHZ ys).adv) (.int .i64 (readHZ ys).seq) (.int .i64 (readHZ ys).sum) (.int .i64 (readHZ ys).len)
    have HK : Hid (Below w.heap.size w (((((((w2.setCell ⟨w.heap.size, 0, none⟩ (.int .i64 (readHZ ys).age)).setCell ⟨w.heap.size, 1, none⟩ (.int .i64 (readHZ ys).kind)).setCell ⟨w.heap.size, 2, none⟩ (.int .i64 (readHZ ys).id)).setCell ⟨w.heap.size, 3, none⟩ (.int .i64 (readHZ ys).adv)).setCell ⟨w.heap.size, 4, none⟩ (.int .i64 (readHZ ys).seq)).setCell ⟨w.heap.size, 5, none⟩ (.int .i64 (readHZ ys).sum)).setCell ⟨w.heap.size, 6, none⟩ (.int .i64 (readHZ ys).len))) := below_put7 HB.out (Nat.le_refl _) (.int .i64 (readHZ ys).age) (.int .i64 (readHZ ys).kind) (.int .i64 (readHZ ys).id) (.int .i64 (readHZ ys).adv) (.int .i64 (readHZ ys).seq) (.int .i64 (readHZ ys).sum) (.int .i64 (readHZ ys).len)
    clear r0 q0 r1 q1 r2 q2 r3 q3 r4 q4 r5 q5 r6 q6
    generalize (((((((w2.setCell ⟨w.heap.size, 0, none⟩ (.int .i64 (readHZ ys).age)).setCell ⟨w.heap.size, 1, none⟩ (.int .i64 (readHZ ys).kind)).setCell ⟨w.heap.size, 2, none⟩ (.int .i64 (readHZ ys).id)).setCell ⟨w.heap.size, 3, none⟩ (.int .i64 (readHZ ys).adv)).setCell ⟨w.heap.size, 4, none⟩ (.int .i64 (readHZ ys).seq)).setCell ⟨w.heap.size, 5, none⟩ (.int .i64 (readHZ ys).sum)).setCell ⟨w.heap.size, 6, none⟩ (.int .i64 (readHZ ys).len)) = Z at *
    have r0 := HZZ.out.cell 0 rfl
    have r1 := HZZ.out.cell 1 rfl
    have r2 := HZZ.out.cell 2 rfl
    have r3 := HZZ.out.cell 3 rfl
    have r4 := HZZ.out.cell 4 rfl
    have r5 := HZZ.out.cell 5 rfl
    have r6 := HZZ.out.cell 6 rfl
    refine bodyPost_ret (by simp [results, Tryd.results25, go_sem, r0, r1, r2, r3, r4, r5, r6]; try rfl) rfl ?_
    exact ⟨by rw [HR.out], HK.out⟩
end Go.Proofs.YtoanjhccbmifmaaDoor
