/- Package near: the statements' example; who is heard again in time. -/
import Derived.Test.YtgljblnegiadlaaN11F
namespace Go.Proofs.Ytgljblnegiadlaa
open Go.RowKit Go.Sort Go.Lib
set_option linter.unusedVariables false
set_option linter.unusedSectionVars false
variable [Inhabited NearZ]

theorem hear_first (p : PkZ) (addr self : Int) (h1 : p.kind = 1) (h2 : p.router ≠ self) : hearZ [] p addr self = [heardZ p addr self] := by
  unfold hearZ
  rw [if_pos ⟨h1, h2⟩]
  rfl
set_option maxHeartbeats 1600000 in
theorem awake_any (w : World) : Calls Try.prog 6 #[] w fun e w' => e = .returned (.bool true) ∧ Below w.heap.size w w' := by
  have HB0 : Hid (Below w.heap.size w (w.alloc (.cells #[.int .i64 1] 3))) := below_new' _ _
  have CT := hear_any none 0 0 [] ⟨1, 2, 0, 0, 0, 0, [1], some ⟨w.heap.size, 0, none⟩, 1, 0, 0, .slice none 0 0, .slice none 0 0, .slice none 0 0⟩ 7 1 (w.alloc (.cells #[.int .i64 1] 3)) rfl (.inl rfl) (fun _ => rfl) (by simp) (lies_new w (intC 1) _) (by simp)
  rw [hear_first _ _ _ rfl (by show (2 : Int) ≠ 1; decide)] at CT
  obtain ⟨x, hx⟩ : ∃ x, heardZ ⟨1, 2, 0, 0, 0, 0, [1], some ⟨w.heap.size, 0, none⟩, 1, 0, 0, .slice none 0 0, .slice none 0 0, .slice none 0 0⟩ 7 1 = x := ⟨_, rfl⟩
  rw [hx] at CT
  have HX : Hid (x.two = true ∧ x.addr = 7) := by show _ ∧ _; rw [← hx]; exact ⟨rfl, rfl⟩
  clear hx
  go_enter Try.func6, Try.ntmps6
  go_wp2_with fail
  refine CT.mono ?_
  rintro e w1 ⟨v, rfl, ho, hb⟩
  obtain ⟨g, c, e1, -, -, -⟩ := OwnN.place ho (by simp)
  subst e1
  obtain ⟨c0, c1, c2, c3, c4, c5, c6⟩ := ho.cells 0 (by simp)
  simp only [List.getElem_cons_zero, Nat.zero_mul, Nat.zero_add, List.length_cons, List.length_nil] at c0 c1 c2 c3 c4 c5 c6 ⊢
  rw [HX.out.2] at c1
  rw [HX.out.1] at c5
  have HB1 : Hid (Below w.heap.size w w1) := below_more HB0.out hb HB0.out.size
  clear ho hb CT
  go_wp2
  go_ret
  exact ⟨rfl, HB1.out⟩
def oneZ (left : Int) : NearZ := ⟨2, 7, 0, 0, 0, false, left⟩
def pS : PkZ := ⟨1, 2, 0, 0, 0, 0, [], none, 0, 0, 0, .slice none 0 0, .slice none 0 0, .slice none 0 0⟩
/-- What is left of it behind k Fades. -/
def stay (k : Nat) : List NearZ := if k < 16 then [oneZ (16 - (k : Int))] else []
theorem stay_strict (k : Nat) : Strict (stay k) := by unfold stay Strict; split <;> simp
theorem stay_order (k : Nat) : orderZ (stay k) = stay k := order_self (stay_strict k)
theorem stay_left (k : Nat) : ∀ x ∈ stay k, x.left ≤ 9223372036854775807 := by
  unfold stay; split
  · intro x hx; simp at hx; subst hx; show (16 : Int) - (k : Int) ≤ _; omega
  · intro x hx; simp at hx
theorem stay_fade (k : Nat) : fadeN (stay k) = stay (k + 1) ∧ fadeG (stay k) = if k = 15 then [2] else [] := by
  unfold stay fadeN fadeG
  by_cases h : k < 16
  · rw [if_pos h]
    by_cases h2 : k = 15
    · subst h2; simp [oneZ]
    · have h3 : (1 : Int) < 16 - (k : Int) := by omega
      have h4 : ¬ (16 : Int) - (k : Int) ≤ 1 := by omega
      rw [if_neg h2, if_pos (by omega)]
      simp [oneZ, h3, h4, stepN]
      omega
  · rw [if_neg h, if_neg (by omega), if_neg (by omega)]
    simp
theorem stay_hear (k : Nat) : hearZ (stay k) pS 7 1 = [oneZ 16] := by
  unfold hearZ
  rw [if_pos ⟨rfl, by decide⟩, stay_order]
  unfold stay
  split <;> rfl
theorem stay_len (k : Nat) : (stay k).length ≤ 1 := by unfold stay; split <;> simp
set_option maxHeartbeats 4000000 in
set_option maxRecDepth 20000 in
theorem nearStays_walk (a : Option Addr) (cap : Nat) (zs : List Int) (w : World) (hB : Bts w a zs) (hz : AreBytes zs) (hm : zs.length ≤ maxLen) :
    Calls Try.prog 4 #[.slice a zs.length cap] w fun e w' => e = .returned (.bool true) ∧ Below w.heap.size w w' := by
  have HBT : Hid (Bts w a zs) := hB
  have HZ : Hid (AreBytes zs) := hz
  have hm' : zs.length ≤ 9223372036854775807 := hm
  clear hB hz hm
  obtain ⟨n, hn⟩ : ∃ n, zs.length = n := ⟨_, rfl⟩
  have HN : Hid (zs.length = n) := hn
  rw [hn] at hm' ⊢
  clear hn
  go_enter Try.func4, Try.ntmps4
  by_cases h20 : 20 < n
  · have h20z : (20 : Int) < (n : Int) := by omega
    go_wp2_with fail
    refine (awake_any _).mono ?_
    rintro e w1 ⟨rfl, hb⟩
    have HB1 : Hid (Below w.heap.size w w1) := hb
    clear hb
    go_wp2
    go_ret
    exact ⟨rfl, HB1.out⟩
  · have h20z : ¬ (20 : Int) < (n : Int) := by omega
    have HB0 : Hid (Below w.heap.size w (w.alloc (.cells #[.int .i64 1, .int .i64 2, .int .i64 0, .int .i64 0, .int .i64 0, .int .i64 0, .slice none 0 0, .int .i64 0, .int .i64 0, .slice none 0 0, .slice none 0 0, .slice none 0 0] 28))) := below_new' _ _
    have HX0 : Hid (Var (w.alloc (.cells #[.int .i64 1, .int .i64 2, .int .i64 0, .int .i64 0, .int .i64 0, .int .i64 0, .slice none 0 0, .int .i64 0, .int .i64 0, .slice none 0 0, .slice none 0 0, .slice none 0 0] 28)) w.heap.size (pkC pS)) := var_new w (pkC pS) _
    go_upto_region 4 with fail
    obtain ⟨pb, hpb⟩ : ∃ pb, w.heap.size = pb := ⟨_, rfl⟩
    have HPB : Hid (w.heap.size = pb) := hpb
    rw [hpb] at HX0 ⊢
    generalize w.alloc (.cells #[.int .i64 1, .int .i64 2, .int .i64 0, .int .i64 0, .int .i64 0, .int .i64 0, .slice none 0 0, .int .i64 0, .int .i64 0, .slice none 0 0, .slice none 0 0, .slice none 0 0] 28) = V at *
    clear hpb
    have d0 : V.cell? ⟨pb, 0, none⟩ = some (.int .i64 1) := HX0.out.cell 0 rfl
    have d1 : V.cell? ⟨pb, 1, none⟩ = some (.int .i64 2) := HX0.out.cell 1 rfl
    have d2 : V.cell? ⟨pb, 2, none⟩ = some (.int .i64 0) := HX0.out.cell 2 rfl
    have d3 : V.cell? ⟨pb, 3, none⟩ = some (.int .i64 0) := HX0.out.cell 3 rfl
    have d4 : V.cell? ⟨pb, 4, none⟩ = some (.int .i64 0) := HX0.out.cell 4 rfl
    have d5 : V.cell? ⟨pb, 5, none⟩ = some (.int .i64 0) := HX0.out.cell 5 rfl
    have d6 : V.cell? ⟨pb, 6, none⟩ = some (.slice none 0 0) := HX0.out.cell 6 rfl
    have d7 : V.cell? ⟨pb, 7, none⟩ = some (.int .i64 0) := HX0.out.cell 7 rfl
    have d8 : V.cell? ⟨pb, 8, none⟩ = some (.int .i64 0) := HX0.out.cell 8 rfl
    have d9 : V.cell? ⟨pb, 9, none⟩ = some (.slice none 0 0) := HX0.out.cell 9 rfl
    have d10 : V.cell? ⟨pb, 10, none⟩ = some (.slice none 0 0) := HX0.out.cell 10 rfl
    have d11 : V.cell? ⟨pb, 11, none⟩ = some (.slice none 0 0) := HX0.out.cell 11 rfl
    have CT := hear_any none 0 0 [] pS 7 1 V rfl (.inl rfl) (fun _ => rfl) (by simp) (.inl rfl) (by simp [pS])
    rw [hear_first _ _ _ rfl (by show (2 : Int) ≠ 1; decide)] at CT
    go_wp2_with fail
    refine CT.mono ?_
    rintro e w1 ⟨v1, rfl, ho1, hb1⟩
    have HO1 : Hid (∃ base, OwnN w1 base v1 (stay 0)) := ⟨_, ho1⟩
    have HB1 : Hid (Below w.heap.size w w1) := below_more HB0.out hb1 HB0.out.size
    have HX1 : Hid (Var w1 pb (pkC pS)) := HX0.out.below hb1 HX0.out.lt
    clear ho1 hb1 CT HX0 HB0 d0 d1 d2 d3 d4 d5 d6 d7 d8 d9 d10 d11
    go_wp2_with fail
    go_loopg [4, 5, 6, 7, 8, 9] n (fun gk v4 v5 v6 v7 v8 v9 wr => ∃ i : Nat, v5 = .int .i64 i ∧ i ≤ n ∧ n - i ≤ gk ∧ Hid (∃ base, OwnN wr base v4 (stay 0)) ∧ Hid (Var wr pb (pkC pS)) ∧ Hid (Below w.heap.size w wr))
    case atStart => exact ⟨0, rfl, by omega, by omega, HO1, HX1, HB1⟩
    case round =>
      clear HO1 HX1 HB1
      obtain ⟨i, rfl, hin, hgk, HO, HX, HB⟩ := hrel
      by_cases hlt : i < n
      · have hltz : (i : Int) < (n : Int) := by omega
        have hil : i < zs.length := by rw [HN.out]; exact hlt
        obtain ⟨b, off, rfl, hc⟩ : ∃ b off, a = some ⟨b, off, none⟩ ∧ wr.cell? ⟨b, off + i, none⟩ = some (.int .u8 (zs.getD i 0)) := by
          rcases HBT.out.below HB.out with h | ⟨b, off, h, hc⟩
          · rw [h] at hil; simp at hil
          · exact ⟨b, off, h, hc i hil⟩
        obtain ⟨z, hzz⟩ : ∃ z, zs.getD i 0 = z := ⟨_, rfl⟩
        have hz8 : 0 ≤ z ∧ z ≤ 255 := by
          rw [← hzz]
          have : zs.getD i 0 = zs[i] := by simp [hil]
          rw [this]; exact HZ.out _ (List.getElem_mem hil)
        rw [hzz] at hc
        obtain ⟨q, hq⟩ : ∃ q : Nat, z % 20 = (q : Int) := ⟨(z % 20).toNat, by omega⟩
        have hq20 : q < 20 := by omega
        obtain ⟨hz0, hz1⟩ := hz8
        have htm : z.tmod 20 = (q : Int) := by rw [Int.tmod_eq_emod_of_nonneg hz0]; exact hq
        go_wp2_with fail
        go_loopg [4, 7, 8, 9] q (fun gk2 v4 v7 v8 v9 wr2 => ∃ j : Nat, v7 = .int .i64 ((j : Int) + 1) ∧ j ≤ q ∧ q - j ≤ gk2 ∧ Hid (∃ base, OwnN wr2 base v4 (stay j)) ∧ Hid (Var wr2 pb (pkC pS)) ∧ Hid (Below w.heap.size w wr2))
        case atStart => exact ⟨0, by go_num, by omega, by omega, HO, HX, HB⟩
        case round =>
          clear HO HX HB hc hq htm
          obtain ⟨j, rfl, hjq, hgk2, HO, HX, HB⟩ := hrel
          obtain ⟨base, ho⟩ := HO.out
          obtain ⟨a4, c4, e4, hl4, hn4, -, -⟩ := OwnN.more ho
          subst e4
          by_cases hlt2 : j < q
          · have hltz2 : (j : Int) + 1 ≤ (q : Int) := by omega
            have CT := fade_any a4 (stay j).length c4 (stay j) wr rfl hl4 hn4 (Nat.le_trans (stay_len j) (by omega)) (stay_left j)
            rw [stay_order] at CT
            clear ho hl4 hn4 HO
            generalize hsl : (stay j).length = sl at CT ⊢
            clear hsl
            go_wp2_with fail
            refine CT.mono ?_
            rintro e w2 ⟨v, u, rfl, ht, hb⟩
            rw [(stay_fade j).1] at ht
            have HO2 : Hid (∃ base, OwnN w2 base v (stay (j + 1))) := ⟨_, ht.1⟩
            have HX2 : Hid (Var w2 pb (pkC pS)) := HX.out.below hb HX.out.lt
            have HB2 : Hid (Below w.heap.size w w2) := below_more HB.out hb HB.out.size
            obtain ⟨a5, c5, e4, -⟩ := OwnN.more ht.1
            obtain ⟨a6, c6, e5, -⟩ := OwnI.more ht.2.1
            clear ht hb CT HX HB
            by_cases hj1 : j + 1 < 16
            · have k1 : ((j : Int) + 1 == 16) = false := by simp; omega
              have k2 : (j : Int) + 1 < 16 := by omega
              have hvl : (stay (j + 1)).length = 1 := by unfold stay; rw [if_pos (by omega)]; rfl
              have hul : (fadeG (stay j)).length = 0 := by rw [(stay_fade j).2]; rw [if_neg (by omega)]; rfl
              rw [hvl] at e4
              rw [hul] at e5
              subst e4 e5
              clear hvl hul hj1
              go_wp2
              go_roundg (q - (j + 1))
              case measure => omega
              case rel => exact ⟨j + 1, by go_num, by omega, Nat.le_refl _, HO2, HX2, HB2⟩
            · by_cases hj2 : j + 1 = 16
              · have k1 : ((j : Int) + 1 == 16) = true := by simp; omega
                have k2 : ¬ (j : Int) + 1 < 16 := by omega
                have hvl : (stay (j + 1)).length = 0 := by unfold stay; rw [if_neg (by omega)]; rfl
                have hul : (fadeG (stay j)).length = 1 := by rw [(stay_fade j).2]; rw [if_pos (by omega)]; rfl
                rw [hvl] at e4
                rw [hul] at e5
                subst e4 e5
                clear hvl hul hj1
                go_wp2
                go_roundg (q - (j + 1))
                case measure => omega
                case rel => exact ⟨j + 1, by go_num, by omega, Nat.le_refl _, HO2, HX2, HB2⟩
              · have k1 : ((j : Int) + 1 == 16) = false := by simp; omega
                have k2 : ¬ (j : Int) + 1 < 16 := by omega
                have hvl : (stay (j + 1)).length = 0 := by unfold stay; rw [if_neg (by omega)]; rfl
                have hul : (fadeG (stay j)).length = 0 := by rw [(stay_fade j).2]; rw [if_neg (by omega)]; rfl
                rw [hvl] at e4
                rw [hul] at e5
                subst e4 e5
                clear hvl hul hj1
                go_wp2
                go_roundg (q - (j + 1))
                case measure => omega
                case rel => exact ⟨j + 1, by go_num, by omega, Nat.le_refl _, HO2, HX2, HB2⟩
          · have hltz2 : ¬ (j : Int) + 1 ≤ (q : Int) := by omega
            have CT := hear_any a4 (stay j).length c4 (stay j) pS 7 1 wr rfl hl4 hn4 (Nat.le_trans (stay_len j) (by omega)) (.inl rfl) (by simp [pS])
            rw [stay_hear] at CT
            clear ho hl4 hn4 HO
            generalize hsl : (stay j).length = sl at CT ⊢
            clear hsl
            have d0 : wr.cell? ⟨pb, 0, none⟩ = some (.int .i64 1) := HX.out.cell 0 rfl
            have d1 : wr.cell? ⟨pb, 1, none⟩ = some (.int .i64 2) := HX.out.cell 1 rfl
            have d2 : wr.cell? ⟨pb, 2, none⟩ = some (.int .i64 0) := HX.out.cell 2 rfl
            have d3 : wr.cell? ⟨pb, 3, none⟩ = some (.int .i64 0) := HX.out.cell 3 rfl
            have d4 : wr.cell? ⟨pb, 4, none⟩ = some (.int .i64 0) := HX.out.cell 4 rfl
            have d5 : wr.cell? ⟨pb, 5, none⟩ = some (.int .i64 0) := HX.out.cell 5 rfl
            have d6 : wr.cell? ⟨pb, 6, none⟩ = some (.slice none 0 0) := HX.out.cell 6 rfl
            have d7 : wr.cell? ⟨pb, 7, none⟩ = some (.int .i64 0) := HX.out.cell 7 rfl
            have d8 : wr.cell? ⟨pb, 8, none⟩ = some (.int .i64 0) := HX.out.cell 8 rfl
            have d9 : wr.cell? ⟨pb, 9, none⟩ = some (.slice none 0 0) := HX.out.cell 9 rfl
            have d10 : wr.cell? ⟨pb, 10, none⟩ = some (.slice none 0 0) := HX.out.cell 10 rfl
            have d11 : wr.cell? ⟨pb, 11, none⟩ = some (.slice none 0 0) := HX.out.cell 11 rfl
            go_wp2_with fail
            refine CT.mono ?_
            rintro e w2 ⟨v, rfl, ho, hb⟩
            have HO2 : Hid (∃ base, OwnN w2 base v (stay 0)) := ⟨_, ho⟩
            have HX2 : Hid (Var w2 pb (pkC pS)) := HX.out.below hb HX.out.lt
            have HB2 : Hid (Below w.heap.size w w2) := below_more HB.out hb HB.out.size
            obtain ⟨g5, c5, e4, -, -, -⟩ := OwnN.place ho (by simp)
            subst e4
            obtain ⟨-, -, -, -, -, -, q6⟩ := ho.cells 0 (by simp)
            simp only [List.getElem_cons_zero, Nat.zero_mul, Nat.zero_add, List.length_cons, List.length_nil] at q6 HO2 ⊢
            have q7 : w2.cell? ⟨g5, 6, none⟩ = some (.int .i64 16) := q6
            clear q6 ho hb CT HX HB d0 d1 d2 d3 d4 d5 d6 d7 d8 d9 d10 d11
            go_wp2
            go_roundg (n - (i + 1))
            case measure => omega
            case rel => exact ⟨i + 1, by go_num, by omega, Nat.le_refl _, HO2, HX2, HB2⟩
      · have hltz : ¬ (i : Int) < (n : Int) := by omega
        go_wp2_with fail
        refine (awake_any _).mono ?_
        rintro e w2 ⟨rfl, hb⟩
        have HB2 : Hid (Below w.heap.size w w2) := below_more HB.out hb HB.out.size
        clear hb
        go_wp2
        go_ret
        exact ⟨rfl, HB2.out⟩
end Go.Proofs.Ytgljblnegiadlaa
