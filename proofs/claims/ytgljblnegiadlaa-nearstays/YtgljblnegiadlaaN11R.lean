/- Neighbors turned round: two blocks, one for the other. -/
import Derived.Test.YtgljblnegiadlaaN11I
namespace Go.Proofs.Ytgljblnegiadlaa
open Go.RowKit Go.Sort Go.Lib Go.Shelf
set_option linter.unusedVariables false
set_option linter.unusedSectionVars false
variable [Inhabited NearZ]

theorem swapRange_at (w0 : World) (g cap : Nat) (d0 : Array NearZ) (R : RowK nearC 7 w0 g 0 d0) (cb : Value) (az bz nz : Int) (P U M V S : List NearZ) (W : World) (hn : (P ++ U ++ M ++ V ++ S).length = d0.size) (ha : az = P.length) (hb : bz = P.length + U.length + M.length) (hU : U.length = V.length) (hV : nz = V.length) (hsz : d0.size ≤ 1000000) (hW : Nw w0 g (P ++ U ++ M ++ V ++ S) W) :
    Calls Try.prog 40 #[.slice (some ⟨g, 0, none⟩) d0.size cap, .int .i64 az, .int .i64 bz, .int .i64 nz, cb] W fun e w' => e = .returned (.tuple #[]) ∧ Nw w0 g (P ++ V ++ M ++ U ++ S) w' := by
  have := swapRange_any w0 g cap d0 R cb P.length (P.length + U.length + M.length) V.length P U M V S W hn rfl rfl hU rfl hsz hW
  subst ha hV
  rw [hb]
  simpa using this
set_option maxHeartbeats 4000000 in
theorem rotate_any (w0 : World) (g cap : Nat) (d0 : Array NearZ) (R : RowK nearC 7 w0 g 0 d0) (cb : Value) (a m b : Nat) (P U V S : List NearZ) (W : World) (hn : (P ++ U ++ V ++ S).length = d0.size) (ha : a = P.length) (hm : m = P.length + U.length) (hb : b = P.length + U.length + V.length) (hU : 0 < U.length) (hV : 0 < V.length) (hsz : d0.size ≤ 1000000) (hW : Nw w0 g (P ++ U ++ V ++ S) W) :
    Calls Try.prog 39 #[.slice (some ⟨g, 0, none⟩) d0.size cap, .int .i64 a, .int .i64 m, .int .i64 b, cb] W fun e w' => e = .returned (.tuple #[]) ∧ Nw w0 g (P ++ V ++ U ++ S) w' := by
  have HW : Aside (Nw w0 g (P ++ U ++ V ++ S) W) := hW
  have HN : Hid ((P ++ U ++ V ++ S).length = d0.size) := hn
  have hU' : m - a = U.length := by omega
  have hV' : b - m = V.length := by omega
  have hmd : m + V.length ≤ d0.size := by rw [← hn, hm]; simp; omega
  have HT : Hid (P.length + U.length = m) := hm.symm
  have hUz : (m : Int) - (a : Int) = (U.length : Int) := by omega
  have hVz : (b : Int) - (m : Int) = (V.length : Int) := by omega
  have hma : a ≤ m := by omega
  have hbm : m ≤ b := by omega
  have hbd : b ≤ d0.size := by omega
  clear hW hn hU' hV' ha hm hb
  go_enter Try.func39, Try.ntmps39
  go_wp2
  go_loopg [10, 11] (U.length + V.length) (fun gk vi vj wr => ∃ (i j : Nat) (P' U' V' S' : List NearZ), vi = .int .i64 i ∧ vj = .int .i64 j ∧ 0 < i ∧ 0 < j ∧ Hid (i = U'.length) ∧ Hid (j = V'.length) ∧ i + j = gk ∧ i ≤ m ∧ m + j ≤ d0.size ∧ Hid (P'.length + U'.length = m) ∧ Hid ((P' ++ U' ++ V' ++ S').length = d0.size) ∧ Hid (P' ++ V' ++ U' ++ S' = P ++ V ++ U ++ S) ∧ Aside (Nw w0 g (P' ++ U' ++ V' ++ S') wr))
  case atStart => exact ⟨U.length, V.length, P, U, V, S, by first | rfl | (rw [hUz]) | go_num, by first | rfl | (rw [hVz]) | go_num, hU, hV, rfl, rfl, rfl, by omega, by omega, HT.out, HN.out, rfl, HW.out⟩
  case round =>
    clear HW HN HT hU hV hUz hVz
    obtain ⟨i, j, P', U', V', S', rfl, rfl, hi, hj, HI, HJ, hk, him, hjm, HP, HL, HE, HW⟩ := hrel
    by_cases heq : i = j
    · subst heq
      have hz : ¬ (i : Int) ≠ (i : Int) := by omega
      have CS := fun W' (h : Nw w0 g (P' ++ U' ++ [] ++ V' ++ S') W') => swapRange_at w0 g cap d0 R cb ((m : Int) - (i : Int)) (m : Int) (i : Int) P' U' [] V' S' W' (by simpa using HL.out) (by have h1 := HP.out; have h2 := HI.out; omega) (by have h1 := HP.out; simp; omega) (by rw [← HI.out, ← HJ.out]) (by rw [← HJ.out]) hsz h
      have CT := CS wr (by have := HW.out; simpa using this)
      clear CS
      go_wp2_with fail
      refine CT.mono ?_
      rintro e w2 ⟨rfl, hw2⟩
      have HW2 : Aside _ := hw2
      clear hw2 HW CT
      go_wp2
      go_end0
      refine ⟨rfl, ?_⟩
      have := HW2.out
      rw [List.append_nil, HE.out] at this
      exact this
    · have hz : ¬ (i : Int) = (j : Int) := by omega
      by_cases hgt : j < i
      · have hgz : (j : Int) < (i : Int) := by omega
        have hUU : U' = U'.take j ++ U'.drop j := (List.take_append_drop _ _).symm
        have hl1 : (U'.take j).length = j := by rw [List.length_take, ← HI.out]; omega
        have hl2 : (U'.drop j).length = i - j := by rw [List.length_drop, ← HI.out]
        obtain ⟨U1, hU1⟩ : ∃ u, U'.take j = u := ⟨_, rfl⟩
        obtain ⟨U2, hU2⟩ : ∃ u, U'.drop j = u := ⟨_, rfl⟩
        rw [hU1] at hUU hl1
        rw [hU2] at hUU hl2
        subst hUU
        clear hU1 hU2
        have CT := swapRange_at w0 g cap d0 R cb ((m : Int) - (i : Int)) (m : Int) (j : Int) P' U1 U2 V' S' wr (by have := HL.out; simpa [List.append_assoc] using this) (by have h1 := HP.out; have h2 := HI.out; simp at h1 h2; omega) (by have h1 := HP.out; simp at h1; omega) (by rw [hl1, ← HJ.out]) (by rw [← HJ.out]) hsz (by have := HW.out; simpa [List.append_assoc] using this)
        have H1 : Hid (U1.length = j ∧ U2.length = i - j) := ⟨hl1, hl2⟩
        clear hl1 hl2
        go_wp2_with fail
        refine CT.mono ?_
        rintro e w2 ⟨rfl, hw2⟩
        have HW2 : Aside (Nw w0 g (P' ++ V' ++ U2 ++ U1 ++ S') w2) := hw2
        clear hw2 HW CT
        go_wp2
        go_roundg (i - j + j)
        case measure => omega
        case rel =>
          refine ⟨i - j, j, P' ++ V', U2, U1, S', by first | rfl | (congr 1; omega) | go_num, rfl, by omega, hj, H1.out.2.symm, H1.out.1.symm, rfl, by omega, hjm, ?_, ?_, ?_, by show Nw _ _ _ _; have := HW2.out; simpa [List.append_assoc] using this⟩
          · show _ = _; have h1 := HP.out; have h2 := H1.out; have h3 := HJ.out; simp at h1 ⊢; omega
          · show _ = _; rw [← HL.out]; simp; omega
          · show _ = _; rw [← HE.out]; simp [List.append_assoc]
      · have hgz : ¬ (j : Int) < (i : Int) := by omega
        have hVV : V' = V'.take (j - i) ++ V'.drop (j - i) := (List.take_append_drop _ _).symm
        have hl1 : (V'.take (j - i)).length = j - i := by rw [List.length_take, ← HJ.out]; omega
        have hl2 : (V'.drop (j - i)).length = i := by rw [List.length_drop, ← HJ.out]; omega
        obtain ⟨V1, hV1⟩ : ∃ u, V'.take (j - i) = u := ⟨_, rfl⟩
        obtain ⟨V2, hV2⟩ : ∃ u, V'.drop (j - i) = u := ⟨_, rfl⟩
        rw [hV1] at hVV hl1
        rw [hV2] at hVV hl2
        subst hVV
        clear hV1 hV2
        have CT := swapRange_at w0 g cap d0 R cb ((m : Int) - (i : Int)) ((m : Int) + (j : Int) - (i : Int)) (i : Int) P' U' V1 V2 S' wr (by have := HL.out; simpa [List.append_assoc] using this) (by have h1 := HP.out; have h2 := HI.out; omega) (by have h1 := HP.out; have h2 := HJ.out; simp at h2; omega) (by rw [hl2, ← HI.out]) (by rw [hl2]) hsz (by have := HW.out; simpa [List.append_assoc] using this)
        have H1 : Hid (V1.length = j - i ∧ V2.length = i) := ⟨hl1, hl2⟩
        clear hl1 hl2
        go_wp2_with fail
        refine CT.mono ?_
        rintro e w2 ⟨rfl, hw2⟩
        have HW2 : Aside (Nw w0 g (P' ++ V2 ++ V1 ++ U' ++ S') w2) := hw2
        clear hw2 HW CT
        go_wp2
        go_roundg (i + (j - i))
        case measure => omega
        case rel =>
          refine ⟨i, j - i, P', V2, V1, U' ++ S', rfl, by first | rfl | (congr 1; omega) | go_num, hi, by omega, H1.out.2.symm, H1.out.1.symm, rfl, him, by omega, ?_, ?_, ?_, by show Nw _ _ _ _; have := HW2.out; simpa [List.append_assoc] using this⟩
          · show _ = _; have h1 := HP.out; have h2 := H1.out; have h3 := HI.out; omega
          · show _ = _; rw [← HL.out]; simp; omega
          · show _ = _; rw [← HE.out]; simp [List.append_assoc]
end Go.Proofs.Ytgljblnegiadlaa
