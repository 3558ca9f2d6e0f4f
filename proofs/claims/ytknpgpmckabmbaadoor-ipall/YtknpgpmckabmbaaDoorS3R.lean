/- Plain facts: just when bytes are a datagram's, in numbers; turned, cut, lengthened ones are none; told ones are read back. -/
import Derived.Test.YtknpgpmckabmbaaDoorS3Q
namespace Go.Proofs.YtknpgpmckabmbaaDoor

/-- The sum of the words of the head, but its sum. -/
def rawZ (zs : List Int) : Int :=
  17664 + (zs.length : Int) + (256 * zs.getD 8 0 + zs.getD 9 0) + (256 * zs.getD 12 0 + zs.getD 13 0) + (256 * zs.getD 14 0 + zs.getD 15 0) + (256 * zs.getD 16 0 + zs.getD 17 0) + (256 * zs.getD 18 0 + zs.getD 19 0)
theorem head_of (zs : List Int) (hz : ∀ k, 0 ≤ zs.getD k 0 ∧ zs.getD k 0 ≤ 255) (c : Int) :
    headZ (getT zs) (getP zs) (getS zs) (getA zs) ((zs.length : Int) - 20) c = [69, 0, (zs.length : Int) / 256 % 256, (zs.length : Int) % 256, 0, 0, 0, 0, zs.getD 8 0, zs.getD 9 0, c / 256 % 256, c % 256, zs.getD 12 0, zs.getD 13 0, zs.getD 14 0, zs.getD 15 0, zs.getD 16 0, zs.getD 17 0, zs.getD 18 0, zs.getD 19 0] := by
  have eS : be4 (getS zs) = [zs.getD 12 0, zs.getD 13 0, zs.getD 14 0, zs.getD 15 0] := be4_num4 _ _ _ _ (hz 12) (hz 13) (hz 14) (hz 15)
  have eA : be4 (getA zs) = [zs.getD 16 0, zs.getD 17 0, zs.getD 18 0, zs.getD 19 0] := be4_num4 _ _ _ _ (hz 16) (hz 17) (hz 18) (hz 19)
  have hT : getT zs % 256 = zs.getD 8 0 := by have := hz 8; unfold getT; omega
  have hP : getP zs % 256 = zs.getD 9 0 := by have := hz 9; unfold getP; omega
  unfold headZ
  rw [eS, eA, hT, hP, show (20 : Int) + ((zs.length : Int) - 20) = zs.length by omega]
  rfl
theorem words_of (zs : List Int) (hz : ∀ k, 0 ≤ zs.getD k 0 ∧ zs.getD k 0 ≤ 255) (h : zs.length ≤ 1044) : wordsZ (headZ (getT zs) (getP zs) (getS zs) (getA zs) ((zs.length : Int) - 20) 0) = rawZ zs := by
  rw [head_of zs hz 0]
  simp only [wordsZ, rawZ]
  omega
theorem want_of (zs : List Int) (hz : ∀ k, 0 ≤ zs.getD k 0 ∧ zs.getD k 0 ≤ 255) (h : zs.length ≤ 1044) : ∃ c, 0 ≤ c ∧ c ≤ 65535 ∧ c = 65535 - foldZ (rawZ zs) ∧
    wantZ zs = [69, 0, (zs.length : Int) / 256 % 256, (zs.length : Int) % 256, 0, 0, 0, 0, zs.getD 8 0, zs.getD 9 0, c / 256 % 256, c % 256, zs.getD 12 0, zs.getD 13 0, zs.getD 14 0, zs.getD 15 0, zs.getD 16 0, zs.getD 17 0, zs.getD 18 0, zs.getD 19 0] := by
  refine ⟨inetZ (headZ (getT zs) (getP zs) (getS zs) (getA zs) ((zs.length : Int) - 20) 0), (inetZ_bd _).1, (inetZ_bd _).2, ?_, ?_⟩
  · unfold inetZ; rw [words_of zs hz h]
  · unfold wantZ ipZ; exact head_of zs hz _
theorem take10_of (zs : List Int) (h : 10 ≤ zs.length) : zs.take 10 = [zs.getD 0 0, zs.getD 1 0, zs.getD 2 0, zs.getD 3 0, zs.getD 4 0, zs.getD 5 0, zs.getD 6 0, zs.getD 7 0, zs.getD 8 0, zs.getD 9 0] := by
  match zs, h with
  | z0 :: z1 :: z2 :: z3 :: z4 :: z5 :: z6 :: z7 :: z8 :: z9 :: r, _ => simp
theorem getD_drop (zs : List Int) (k i : Nat) : (zs.drop k).getD i 0 = zs.getD (k + i) 0 := by simp [List.getD_eq_getElem?_getD]
theorem take20_of (zs : List Int) (h : 20 ≤ zs.length) : zs.take 20 = [zs.getD 0 0, zs.getD 1 0, zs.getD 2 0, zs.getD 3 0, zs.getD 4 0, zs.getD 5 0, zs.getD 6 0, zs.getD 7 0, zs.getD 8 0, zs.getD 9 0, zs.getD 10 0, zs.getD 11 0, zs.getD 12 0, zs.getD 13 0, zs.getD 14 0, zs.getD 15 0, zs.getD 16 0, zs.getD 17 0, zs.getD 18 0, zs.getD 19 0] := by
  rw [show (20 : Nat) = 10 + 10 from rfl, List.take_add, take10_of zs (by omega), take10_of (zs.drop 10) (by rw [List.length_drop]; omega)]
  simp only [getD_drop]
  rfl
/-- In numbers: when Get tells a datagram. -/
theorem getE_zero (zs : List Int) (hz : ∀ k, 0 ≤ zs.getD k 0 ∧ zs.getD k 0 ≤ 255) : getE zs = 0 ↔
    20 ≤ zs.length ∧ zs.length ≤ 1044 ∧ zs.getD 0 0 = 69 ∧ zs.getD 1 0 = 0 ∧ zs.getD 2 0 * 256 + zs.getD 3 0 = zs.length ∧ zs.getD 4 0 = 0 ∧ zs.getD 5 0 = 0 ∧ zs.getD 6 0 = 0 ∧ zs.getD 7 0 = 0 ∧ zs.getD 10 0 * 256 + zs.getD 11 0 = 65535 - foldZ (rawZ zs) := by
  by_cases h1 : 20 ≤ zs.length
  · by_cases h2 : zs.length ≤ 1044
    · obtain ⟨c, c0, c1, hc, hw⟩ := want_of zs hz h2
      have b2 := hz 2; have b3 := hz 3; have b10 := hz 10; have b11 := hz 11
      have key : zs.take 20 = wantZ zs ↔ (zs.getD 0 0 = 69 ∧ zs.getD 1 0 = 0 ∧ zs.getD 2 0 * 256 + zs.getD 3 0 = zs.length ∧ zs.getD 4 0 = 0 ∧ zs.getD 5 0 = 0 ∧ zs.getD 6 0 = 0 ∧ zs.getD 7 0 = 0 ∧ zs.getD 10 0 * 256 + zs.getD 11 0 = 65535 - foldZ (rawZ zs)) := by
        rw [take20_of zs h1, hw, ← hc]
        simp only [List.cons.injEq, and_true, true_and]
        constructor
        · rintro ⟨a0, a1, a2, a3, a4, a5, a6, a7, a10, a11⟩
          exact ⟨a0, a1, by omega, a4, a5, a6, a7, by omega⟩
        · rintro ⟨a0, a1, a2, a4, a5, a6, a7, a10⟩
          exact ⟨a0, a1, by omega, by omega, a4, a5, a6, a7, by omega, by omega⟩
      constructor
      · intro h
        unfold getE at h
        rw [if_neg (by omega), if_neg (by omega)] at h
        by_cases h8 : zs.take 8 = (wantZ zs).take 8
        · rw [if_pos h8] at h
          by_cases h20 : zs.take 20 = wantZ zs
          · exact ⟨h1, h2, key.1 h20⟩
          · rw [if_neg h20] at h; cases h
        · rw [if_neg h8] at h; cases h
      · rintro ⟨_, _, h⟩
        have h20 := key.2 h
        have h8 : zs.take 8 = (wantZ zs).take 8 := by rw [← h20, List.take_take]; rfl
        unfold getE
        rw [if_neg (by omega), if_neg (by omega), if_pos h8, if_pos h20]
    · have : getE zs = 3 := by unfold getE; rw [if_neg (by omega), if_pos (by omega)]
      rw [this]; constructor
      · intro h; cases h
      · rintro ⟨_, h, _⟩; omega
  · have : getE zs = 2 := by unfold getE; rw [if_pos (by omega)]
    rw [this]; constructor
    · intro h; cases h
    · rintro ⟨h, _⟩; omega
theorem getE_take (zs : List Int) (h : getE zs = 0) : zs.take 20 = wantZ zs ∧ 20 ≤ zs.length ∧ zs.length ≤ 1044 := by
  unfold getE at h
  by_cases h1 : zs.length < 20
  · rw [if_pos h1] at h; cases h
  · rw [if_neg h1] at h
    by_cases h2 : 1044 < zs.length
    · rw [if_pos h2] at h; cases h
    · rw [if_neg h2] at h
      by_cases h8 : zs.take 8 = (wantZ zs).take 8
      · rw [if_pos h8] at h
        by_cases h20 : zs.take 20 = wantZ zs
        · exact ⟨h20, by omega, by omega⟩
        · rw [if_neg h20] at h; cases h
      · rw [if_neg h8] at h; cases h
theorem getE_whole (zs : List Int) (h : getE zs = 0) : wantZ zs ++ zs.drop 20 = zs := (whole_iff zs).2 (getE_take zs h).1

/-- One of the first twenty turned: none. -/
theorem turned_none (zs : List Int) (hz : ∀ k, 0 ≤ zs.getD k 0 ∧ zs.getD k 0 ≤ 255) (h : getE zs = 0) (i : Nat) (v : Int) (hi : i < 20) (hv : 0 ≤ v ∧ v ≤ 255) (hne : v ≠ zs.getD i 0) (hz' : ∀ k, 0 ≤ (zs.set i v).getD k 0 ∧ (zs.set i v).getD k 0 ≤ 255) : getE (zs.set i v) ≠ 0 := by
  intro h'
  obtain ⟨l1, l2, a0, a1, a2, a4, a5, a6, a7, a10⟩ := (getE_zero zs hz).1 h
  obtain ⟨_, _, b0, b1, b2, b4, b5, b6, b7, b10⟩ := (getE_zero _ hz').1 h'
  have hg : ∀ k, (zs.set i v).getD k 0 = if i = k then v else zs.getD k 0 := fun k => by
    by_cases e : i = k
    · subst e; simp [show i < zs.length by omega]
    · simp [e]
  have f1 : foldZ (rawZ zs) = (rawZ zs - 1) % 65535 + 1 := by
    unfold foldZ; rw [if_neg]
    have h8 := hz 8; have h9 := hz 9; have h12 := hz 12; have h13 := hz 13; have h14 := hz 14; have h15 := hz 15; have h16 := hz 16; have h17 := hz 17; have h18 := hz 18; have h19 := hz 19
    unfold rawZ; omega
  have f2 : foldZ (rawZ (zs.set i v)) = (rawZ (zs.set i v) - 1) % 65535 + 1 := by
    unfold foldZ; rw [if_neg]
    have h8 := hz' 8; have h9 := hz' 9; have h12 := hz' 12; have h13 := hz' 13; have h14 := hz' 14; have h15 := hz' 15; have h16 := hz' 16; have h17 := hz' 17; have h18 := hz' 18; have h19 := hz' 19
    unfold rawZ; omega
  rw [f1] at a10
  rw [f2] at b10
  unfold rawZ at a10 b10
  simp only [List.length_set] at b2 b10
  rw [hg 0] at b0
  rw [hg 1] at b1
  rw [hg 2, hg 3] at b2
  rw [hg 4] at b4
  rw [hg 5] at b5
  rw [hg 6] at b6
  rw [hg 7] at b7
  simp only [hg] at b10
  have w0 := hz 0; have w1 := hz 1; have w2 := hz 2; have w3 := hz 3; have w8 := hz 8; have w9 := hz 9; have w10 := hz 10; have w11 := hz 11
  have w12 := hz 12; have w13 := hz 13; have w14 := hz 14; have w15 := hz 15; have w16 := hz 16; have w17 := hz 17; have w18 := hz 18; have w19 := hz 19
  clear f1 f2 hz hz' h h'
  have hc : i = 0 ∨ i = 1 ∨ i = 2 ∨ i = 3 ∨ i = 4 ∨ i = 5 ∨ i = 6 ∨ i = 7 ∨ i = 8 ∨ i = 9 ∨ i = 10 ∨ i = 11 ∨ i = 12 ∨ i = 13 ∨ i = 14 ∨ i = 15 ∨ i = 16 ∨ i = 17 ∨ i = 18 ∨ i = 19 := by omega
  rcases hc with rfl | rfl | rfl | rfl | rfl | rfl | rfl | rfl | rfl | rfl | rfl | rfl | rfl | rfl | rfl | rfl | rfl | rfl | rfl | rfl
  all_goals clear hg
  all_goals simp only [reduceIte, Nat.reduceEqDiff] at *
  all_goals omega
end Go.Proofs.YtknpgpmckabmbaaDoor
