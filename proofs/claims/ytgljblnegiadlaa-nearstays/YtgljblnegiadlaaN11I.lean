/- Neighbors sorted by insertion. -/
import Derived.Test.YtgljblnegiadlaaN11S
namespace Go.Proofs.Ytgljblnegiadlaa
open Go.RowKit Go.Sort Go.Lib Go.Shelf
set_option linter.unusedVariables false
set_option linter.unusedSectionVars false
variable [Inhabited NearZ]

def lessN : Value := .func (.func 26) #[] #[]
theorem enter_less : ∀ args w, (callFunc 26 args).run Try.prog w = .ok (.enter 26 args) w := by
  intro args w; rfl
/-- The comparison, in whatever world behind. -/
theorem less_step (W : World) (x y : NearZ) (v : Int) (h : cmpN x y = v) : ∀ n os, Calls Try.prog 26 #[.agg (nearA x), .agg (nearA y)] (grow (W.drewN n) os) fun e w' => e = .returned (.int .i64 v) ∧ ∃ q os', w' = grow ((grow (W.drewN n) os).drewN q) os' := by
  intro n os; subst h; exact order_any x y _
theorem cmpN_neg (x y : NearZ) : cmpN x y < 0 ↔ x.id < y.id := by
  unfold cmpN
  rcases cmpZ_cases x.id y.id with ⟨h1, h2⟩ | ⟨h1, h2⟩ | ⟨h1, h2⟩ <;> rw [h1] <;> constructor <;> intro h <;> omega
set_option maxHeartbeats 4000000 in
theorem insert_any (w0 : World) (g cap : Nat) (d0 : Array NearZ) (R : RowK nearC 7 w0 g 0 d0) (a b : Nat) (P X S : List NearZ) (x0 : NearZ) (X0 : List NearZ) (hX : X = x0 :: X0) (W : World) (hn : (P ++ X ++ S).length = d0.size) (ha : a = P.length) (hb : b = P.length + X.length) (hsz : d0.size ≤ 1000000) (hW : Nw w0 g (P ++ X ++ S) W) :
    Calls Try.prog 35 #[.slice (some ⟨g, 0, none⟩) d0.size cap, .int .i64 a, .int .i64 b, .func (.func 26) #[] #[]] W fun e w' => e = .returned (.tuple #[]) ∧ ∃ M, Srt M X ∧ Nw w0 g (P ++ M ++ S) w' := by
  have mixed := mixed11
  have HW : Aside (Nw w0 g (P ++ X ++ S) W) := hW
  have HA : Hid (a = P.length) := ha
  have HB : Hid (b = P.length + X.length) := hb
  have HN : Hid ((P ++ X ++ S).length = d0.size) := hn
  have HX : Hid (X = x0 :: X0) := hX
  have hbz : b ≤ d0.size := by rw [← hn, hb]; simp
  have hab : a + 1 ≤ b := by rw [hb, ha, hX]; simp
  clear hW ha hb hn hX
  go_enter Try.func35, Try.ntmps35
  go_wp2
  go_loopg [8] X0.length (fun g1 vi wr => ∃ (i : Nat) (X1 X2 M : List NearZ), vi = .int .i64 i ∧ X1 ++ X2 = X ∧ Hid (i = a + X1.length) ∧ X2.length = g1 ∧ a + 1 ≤ i ∧ i + g1 = b ∧ Hid (Srt M X1) ∧ Aside (Nw w0 g (P ++ M ++ X2 ++ S) wr))
  case atStart =>
    obtain rfl := HX.out
    refine ⟨a + 1, [x0], X0, [x0], by go_num, rfl, rfl, rfl, Nat.le_refl _, ?_, Srt.self (Rise.one x0), ?_⟩
    · rw [HB.out, HA.out]; simp; omega
    · have := HW.out
      simp only [List.append_assoc, List.cons_append, List.nil_append] at this ⊢
      exact this
  case round =>
    clear HW
    obtain ⟨i, X1, X2, M, rfl, hXX, HI, hg1, hai, hib, HM, HI2⟩ := hrel
    by_cases hlt : i < b
    · have hltz : (i : Int) < (b : Int) := by omega
      obtain ⟨x, X3, rfl⟩ : ∃ x X3, X2 = x :: X3 := by
        cases X2 with
        | nil => simp at hg1; omega
        | cons x X3 => exact ⟨x, X3, rfl⟩
      have HML : Hid (M.length = X1.length) := HM.out.2.2
      go_wp2
      go_loopg [9] M.length (fun g2 vj wr2 => ∃ (j : Nat) (M1 M2 : List NearZ), vj = .int .i64 j ∧ Hid (M1.length = g2) ∧ Hid (j = a + g2) ∧ j ≤ i ∧ Hid (M1 ++ M2 = M) ∧ Hid (∀ z ∈ M2, x.id < z.id) ∧ Aside (Nw w0 g (P ++ M1 ++ [x] ++ M2 ++ X3 ++ S) wr2))
      case atStart => exact ⟨i, M, [], rfl, rfl, by rw [HML.out]; exact HI.out, Nat.le_refl _, by show _ = _; simp, by show ∀ z ∈ [], _; simp, by show Nw _ _ _ _; have := HI2.out; simpa [List.append_assoc] using this⟩
      case round =>
        clear HI2
        obtain ⟨j, M1, M2, rfl, hg2, hj, hji, HMM, HM2, HI3⟩ := hrel
        have hg2' := hg2.out
        have hj' := hj.out
        have out : (∀ z ∈ M1, z.id ≤ x.id) → Hid (Srt (M1 ++ [x] ++ M2) (X1 ++ [x])) := fun h => by
          have hr : Rise (M1 ++ M2) := by rw [HMM.out]; exact HM.out.1
          refine (srt_left hr h HM2.out).of ?_ ?_
          · rw [HMM.out]; exact (HM.out.2.1).app (Same.refl _)
          · rw [HMM.out]; simp [HM.out.2.2]
        have OUT : Aside _ := out
        clear out
        have hl : (P ++ M1 ++ [x] ++ M2 ++ X3 ++ S).length = d0.size := by
          have h1 := HN.out
          have h2 : M1.length + M2.length = X1.length := by rw [← HML.out, ← HMM.out]; simp
          rw [← hXX] at h1
          simp at h1 ⊢; omega
        have HNEXT : Aside (∀ w2, Nw w0 g (P ++ M1 ++ [x] ++ M2 ++ X3 ++ S) w2 → (∀ z ∈ M1, z.id ≤ x.id) → ∃ (i' : Nat) (X1' X2' M' : List NearZ), Value.int .i64 ((i : Int) + 1) = .int .i64 i' ∧ X1' ++ X2' = X ∧ Hid (i' = a + X1'.length) ∧ X2'.length = X3.length ∧ a + 1 ≤ i' ∧ i' + X3.length = b ∧ Hid (Srt M' X1') ∧ Aside (Nw w0 g (P ++ M' ++ X2' ++ S) w2)) := fun w2 h2 hz => by
          refine ⟨i + 1, X1 ++ [x], X3, M1 ++ [x] ++ M2, by go_num, by rw [← hXX]; simp, by show _ = _; rw [HI.out]; simp; omega, rfl, by omega, by simp at hg1; omega, OUT.out hz, ?_⟩
          have : Nw w0 g (P ++ (M1 ++ [x] ++ M2) ++ X3 ++ S) w2 := by simpa [List.append_assoc] using h2
          exact this
        by_cases hja : a < j
        · have hjaz : (a : Int) < (j : Int) := by omega
          obtain ⟨M4, y, rfl⟩ : ∃ M4 y, M1 = M4 ++ [y] := by
            rcases List.eq_nil_or_concat M1 with h | ⟨l, y, h⟩
            · subst h; simp at hg2'; omega
            · exact ⟨l, y, by rw [h]; simp⟩
          obtain ⟨jp, rfl⟩ : ∃ jp, j = jp + 1 := ⟨j - 1, by omega⟩
          have hl4 : M4.length = jp - a := by simp at hg2'; omega
          have hgk : a + M4.length = jp := by simp at hg2'; omega
          have e0 : ((jp : Int) + 1).toNat = jp + 1 := by omega
          have hwp : IntKind.i64.wrap (jp : Int) = (jp : Int) := by rw [IntKind.wrap_i64]; omega
          have p0 : (0 : Int) ≤ (jp : Int) + 1 := by omega
          have hPM : (P ++ M4).length = jp := by have := HA.out; simp; omega
          have hxj : (P ++ (M4 ++ [y]) ++ [x] ++ M2 ++ X3 ++ S).toArray[jp + 1]! = x := by
            have := at_mid (P ++ M4 ++ [y]) (M2 ++ X3 ++ S) x
            rw [List.length_append, hPM, List.length_singleton] at this; simpa [List.append_assoc] using this
          have hyp : (P ++ (M4 ++ [y]) ++ [x] ++ M2 ++ X3 ++ S).toArray[jp]! = y := by
            have := at_mid (P ++ M4) ([x] ++ M2 ++ X3 ++ S) y
            rw [hPM] at this; simpa [List.append_assoc] using this
          have hjd : jp + 1 < d0.size := by rw [← hl]; have := hPM; simp at this ⊢; omega
          have jz : (jp : Int) + 1 < (d0.size : Int) := by omega
          have jz1 : (jp : Int) < (d0.size : Int) := by omega
          have hjaz' : (a : Int) < (jp : Int) + 1 := by omega
          obtain ⟨oJ, hoJ, c0, c1, c2, c3, c4, c5, c6⟩ := cmp_step HI3.out R hl (jp + 1) hjd x hxj
          obtain ⟨oP, hoP, k0, k1, k2, k3, k4, k5, k6⟩ := cmp_step HI3.out R hl jp (by omega) y hyp
          have HG : Hid (a + M4.length = jp) := hgk
          have HPM : Hid ((P ++ M4).length = jp) := hPM
          clear hl4 hgk hPM hj' hg2'
          by_cases hlv : x.id < y.id
          · obtain ⟨v, hv⟩ : ∃ v, cmpN x y = v := ⟨_, rfl⟩
            have hv0 : v < 0 := by rw [← hv, cmpN_neg]; exact hlv
            have CC := less_step wr x y v hv
            clear hv
            go_wp2_with fail
            go_quiet_grown (first | (go_at_call 26; exact Calls.grown_of (CC _ _)))
            go_wp2_with fail
            have HI4 : Nw w0 g _ (grow (wr.drewN nq) osq) := SWK.grown HI3.out nq osq
            clear c0 c1 c2 c3 c4 c5 c6 k0 k1 k2 k3 k4 k5 k6 CC hoJ hoP
            have hsw : swp (P ++ (M4 ++ [y]) ++ [x] ++ M2 ++ X3 ++ S).toArray (jp + 1) jp = (P ++ M4 ++ [x] ++ (y :: M2) ++ X3 ++ S).toArray := by
              have := swp_back (P ++ M4) (M2 ++ X3 ++ S) y x
              rw [HPM.out] at this; simpa [List.append_assoc] using this
            obtain ⟨oA, oB, w2, hoA, hoB, ⟨c0, c1, c2, c3, c4, c5, c6⟩, ⟨f0, f1, f2, f3, f4, f5, f6⟩, ⟨k0, k1, k2, k3, k4, k5, k6⟩, ⟨g0, g1, g2, g3, g4, g5, g6⟩, ⟨j0, j1, j2, j3, j4, j5, j6⟩, hw2, hS⟩ := swap_step HI4 R hl (jp + 1) jp hjd (by omega) (by omega) x y hxj hyp hsw
            have HS : Aside (Nw w0 g (P ++ M4 ++ [x] ++ (y :: M2) ++ X3 ++ S) w2) := hS
            clear HI4 hS hsw
            generalize grow (wr.drewN nq) osq = wq at *
            go_upto_region 6 with fail
            go_big_region
            clear hw2 j0 j1 j2 j3 j4 j5 j6 c0 c1 c2 c3 c4 c5 c6 f0 f1 f2 f3 f4 f5 f6 k0 k1 k2 k3 k4 k5 k6 g0 g1 g2 g3 g4 g5 g6
            go_wp2
            go_roundg M4.length
            case measure => have := hg2.out; simp at this; omega
            case rel =>
              have h1 : Hid (∀ z ∈ y :: M2, x.id < z.id) := by
                show ∀ z ∈ y :: M2, x.id < z.id
                intro z hz
                rcases List.mem_cons.1 hz with rfl | hz
                · exact hlv
                · exact HM2.out z hz
              exact ⟨jp, M4, y :: M2, by go_num, rfl, HG.out.symm, by omega, by show _ = _; rw [← HMM.out]; simp, h1, HS⟩
          · obtain ⟨v, hv⟩ : ∃ v, cmpN x y = v := ⟨_, rfl⟩
            have hv0 : ¬ v < 0 := by rw [← hv, cmpN_neg]; exact hlv
            have CC := less_step wr x y v hv
            clear hv
            have HZ : Aside (∀ z ∈ M4 ++ [y], z.id ≤ x.id) := by
              show ∀ z ∈ M4 ++ [y], z.id ≤ x.id
              intro z hz
              rcases List.mem_append.1 hz with hz | hz
              · have hr := HM.out.1
                rw [← HMM.out] at hr
                have := (Rise.app.1 ((Rise.app.1 hr).1)).2.2 z hz y (by simp)
                omega
              · simp at hz; subst hz; omega
            go_wp2_with fail
            go_quiet_grown (first | (go_at_call 26; exact Calls.grown_of (CC _ _)))
            have HI4 : Nw w0 g _ (grow (wr.drewN nq) osq) := SWK.grown HI3.out nq osq
            have HE := HNEXT.out _ HI4 HZ.out
            clear c0 c1 c2 c3 c4 c5 c6 k0 k1 k2 k3 k4 k5 k6 CC hoJ hoP
            generalize grow (wr.drewN nq) osq = wq at *
            have HE' : Aside _ := HE
            clear HE HI4
            go_wp2
            go_roundg X3.length
            case measure => simp at hg1; omega
            case rel => exact HE'.out
        · have hjaz : ¬ (a : Int) < (j : Int) := by omega
          have hM1 : M1 = [] := List.eq_nil_of_length_eq_zero (by omega)
          have HE := HNEXT.out _ (HI3.out.drew) (by rw [hM1]; simp)
          have HE' : Aside _ := HE
          clear HE hj' hg2'
          have hdec : decide ((j : Int) > (a : Int)) = false := decide_eq_false (by omega)
          go_wp2_with fail
          go_big_region
          go_wp2
          go_roundg X3.length
          case measure => simp at hg1; omega
          case rel => exact HE'.out
    · have hltz : ¬ (i : Int) < (b : Int) := by omega
      go_wp2
      go_end0
      have hg : X2 = [] := List.eq_nil_of_length_eq_zero (by omega)
      subst hg
      rw [List.append_nil] at hXX
      refine ⟨rfl, M, by rw [← hXX]; exact HM.out, ?_⟩
      have := HI2.out
      rw [List.append_nil] at this
      simpa [List.append_assoc] using this
end Go.Proofs.Ytgljblnegiadlaa
