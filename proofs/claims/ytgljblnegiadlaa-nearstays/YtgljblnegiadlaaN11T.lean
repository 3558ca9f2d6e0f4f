/- Neighbors sorted, those of one Id as they stood. -/
import Derived.Test.YtgljblnegiadlaaN11U
namespace Go.Proofs.Ytgljblnegiadlaa
open Go.RowKit Go.Sort Go.Lib Go.Shelf
set_option linter.unusedVariables false
set_option linter.unusedSectionVars false
variable [Inhabited NearZ]

set_option maxHeartbeats 4000000 in
theorem insertNone_any (g cap : Nat) (n a : Nat) (cb : Value) (W : World) (h : n ≤ 1000000) (ha : a ≤ 1000000) :
    Calls Try.prog 35 #[.slice (some ⟨g, 0, none⟩) n cap, .int .i64 a, .int .i64 a, cb] W fun e w' => e = .returned (.tuple #[]) ∧ w' = W := by
  go_enter Try.func35, Try.ntmps35
  go_wp2
  go_loopg [8] 0 (fun g1 vi wr => vi = .int .i64 ((a : Int) + 1) ∧ wr = W)
  case atStart => exact ⟨by go_num, rfl⟩
  case round =>
    obtain ⟨rfl, rfl⟩ := hrel
    have h1 : ¬ (a : Int) + 1 < (a : Int) := by omega
    go_wp2
    go_end0
    exact ⟨rfl, rfl⟩
/-- A block, whatever it is of. -/
theorem block_any (w0 : World) (g cap : Nat) (d0 : Array NearZ) (R : RowK nearC 7 w0 g 0 d0) (a b : Nat) (P X S : List NearZ) (W : World) (hn : (P ++ X ++ S).length = d0.size) (ha : a = P.length) (hb : b = P.length + X.length) (hsz : d0.size ≤ 1000000) (hW : Nw w0 g (P ++ X ++ S) W) :
    Calls Try.prog 35 #[.slice (some ⟨g, 0, none⟩) d0.size cap, .int .i64 a, .int .i64 b, .func (.func 26) #[] #[]] W fun e w' => e = .returned (.tuple #[]) ∧ ∃ M, Srt M X ∧ Nw w0 g (P ++ M ++ S) w' := by
  cases X with
  | nil =>
    have hab : b = a := by rw [hb, ha]; simp
    rw [hab]
    refine (insertNone_any g cap d0.size a _ W hsz (by rw [ha]; simp at hn; omega)).mono ?_
    rintro e w' ⟨rfl, rfl⟩
    exact ⟨rfl, [], Srt.self Rise.nil, hW⟩
  | cons x0 X0 => exact insert_any w0 g cap d0 R a b P (x0 :: X0) S x0 X0 rfl W hn ha hb hsz hW
/-- Each block of k rises. -/
def Blk (k : Nat) (L : List NearZ) : Prop := ∀ i, Rise ((L.drop (i * k)).take k)
theorem Blk.nil (k : Nat) : Blk k [] := fun i => by simpa using Rise.nil
theorem Blk.head {k : Nat} {L : List NearZ} (h : Blk k L) : Rise (L.take k) := by have := h 0; simpa using this
theorem Blk.tail {k : Nat} {L : List NearZ} (h : Blk k L) : Blk k (L.drop k) := fun i => by
  have := h (i + 1)
  rw [List.drop_drop, show k + i * k = (i + 1) * k by rw [Nat.add_mul]; omega]
  exact this
theorem Blk.all {k : Nat} {L : List NearZ} (h : Blk k L) (hl : L.length ≤ k) : Rise L := by have := h.head; rwa [List.take_of_length_le hl] at this
theorem Blk.app {k q : Nat} {D M : List NearZ} (hq : D.length = q * k) (hD : Blk k D) (hl : M.length ≤ k) (hM : Rise M) : Blk k (D ++ M) := fun i => by
  rcases Nat.lt_trichotomy i q with h | h | h
  · have h1 : (i + 1) * k ≤ q * k := Nat.mul_le_mul_right _ h
    rw [Nat.add_mul, Nat.one_mul] at h1
    rw [List.drop_append_of_le_length (by omega), List.take_append_of_le_length (by rw [List.length_drop]; omega)]
    exact hD i
  · subst h
    rw [← hq, List.drop_left, List.take_of_length_le hl]
    exact hM
  · have h1 : (q + 1) * k ≤ i * k := Nat.mul_le_mul_right _ h
    rw [Nat.add_mul, Nat.one_mul] at h1
    rw [List.drop_eq_nil_of_le (by rw [List.length_append]; omega), List.take_nil]
    exact Rise.nil
theorem mergeAt_any (w0 : World) (g cap : Nat) (d0 : Array NearZ) (R : RowK nearC 7 w0 g 0 d0) (hsz : d0.size ≤ 1000000) (az mz bz : Int) (P X Y S : List NearZ) (W : World) (hn : (P ++ X ++ Y ++ S).length = d0.size) (ha : az = P.length) (hm : mz = P.length + X.length) (hb : bz = P.length + X.length + Y.length) (h1 : 0 < X.length) (h2 : 0 < Y.length) (hX : Rise X) (hY : Rise Y) (hW : Nw w0 g (P ++ X ++ Y ++ S) W) :
    Calls Try.prog 36 #[.slice (some ⟨g, 0, none⟩) d0.size cap, .int .i64 az, .int .i64 mz, .int .i64 bz, .func (.func 26) #[] #[]] W fun e w' => e = .returned (.tuple #[]) ∧ ∃ M, Srt M (X ++ Y) ∧ Nw w0 g (P ++ M ++ S) w' := by
  have := merge_any w0 g cap d0 R hsz (X.length + Y.length) P.length (P.length + X.length) (P.length + X.length + Y.length) P X Y S W (Nat.le_refl _) hn rfl rfl rfl h1 h2 hX hY hW
  subst ha hm hb
  unfold MergeIs at this
  simpa using this
theorem blockAt_any (w0 : World) (g cap : Nat) (d0 : Array NearZ) (R : RowK nearC 7 w0 g 0 d0) (az bz : Int) (P X S : List NearZ) (W : World) (hn : (P ++ X ++ S).length = d0.size) (ha : az = P.length) (hb : bz = P.length + X.length) (hsz : d0.size ≤ 1000000) (hW : Nw w0 g (P ++ X ++ S) W) :
    Calls Try.prog 35 #[.slice (some ⟨g, 0, none⟩) d0.size cap, .int .i64 az, .int .i64 bz, .func (.func 26) #[] #[]] W fun e w' => e = .returned (.tuple #[]) ∧ ∃ M, Srt M X ∧ Nw w0 g (P ++ M ++ S) w' := by
  have := block_any w0 g cap d0 R P.length (P.length + X.length) P X S W hn rfl rfl hsz hW
  subst ha hb
  simpa using this
/-- What is held: blocks of k, of what was. -/
def Held11 (w0 : World) (g k : Nat) (L : List NearZ) (W : World) : Prop := ∃ M, Blk k M ∧ Same M L ∧ M.length = L.length ∧ Nw w0 g M W
/-- .. the blocks of 2 k ahead, those of k behind. -/
def Half11 (w0 : World) (g k a : Nat) (L : List NearZ) (W : World) : Prop := ∃ (D E : List NearZ) (q : Nat), D.length = a ∧ a = q * (2 * k) ∧ Blk (2 * k) D ∧ Blk k E ∧ Same (D ++ E) L ∧ (D ++ E).length = L.length ∧ Nw w0 g (D ++ E) W
set_option maxHeartbeats 4000000 in
set_option maxRecDepth 20000 in
theorem stable_any (w0 : World) (g cap : Nat) (d0 : Array NearZ) (R : RowK nearC 7 w0 g 0 d0) (hsz : d0.size ≤ 1000000) (L : List NearZ) (hl : L.length = d0.size) (W : World) (hW : Nw w0 g L W) :
    Calls Try.prog 32 #[.slice (some ⟨g, 0, none⟩) d0.size cap, .int .i64 d0.size, .func (.func 26) #[] #[]] W fun e w' => e = .returned (.tuple #[]) ∧ ∃ M, Srt M L ∧ Nw w0 g M w' := by
  have HW : Aside (Nw w0 g L W) := hW
  have HL : Hid (L.length = d0.size) := hl
  clear hW hl
  obtain ⟨n, hn⟩ : ∃ n, d0.size = n := ⟨_, rfl⟩
  have HND : Hid (d0.size = n) := hn
  have hnn : n ≤ 1000000 := by omega
  have CI := fun az bz P X S W hn ha hb hW => blockAt_any w0 g cap d0 R az bz P X S W hn ha hb hsz hW
  have CM := fun az mz bz P X Y S W hn ha hm hb h1 h2 hX hY hW => mergeAt_any w0 g cap d0 R hsz az mz bz P X Y S W hn ha hm hb h1 h2 hX hY hW
  rw [hn] at CI CM ⊢
  have HCI : Aside _ := CI
  have HCM : Aside _ := CM
  clear CI CM hn
  go_enter Try.func32, Try.ntmps32
  go_wp2
  go_loopg [7, 8] n (fun gk va vb wr => ∃ a : Nat, va = .int .i64 a ∧ vb = .int .i64 ((a : Int) + 20) ∧ a ≤ n ∧ n - a ≤ gk ∧ Hid (∃ (D E : List NearZ) (q : Nat), D.length = a ∧ a = q * 20 ∧ Blk 20 D ∧ Same (D ++ E) L ∧ (D ++ E).length = L.length ∧ Nw w0 g (D ++ E) wr))
  case atStart => exact ⟨0, rfl, by go_num, by omega, by omega, [], L, 0, rfl, rfl, Blk.nil _, Same.refl _, rfl, HW.out⟩
  case round =>
    clear HW
    obtain ⟨a, rfl, rfl, han, hgk, H⟩ := hrel
    by_cases hlt : a + 20 ≤ n
    · have hltz : (a : Int) + 20 ≤ (n : Int) := by omega
      obtain ⟨D, E, q, hD, hq, hB, hS, hL, hW⟩ := H.out
      have hEl : E.length = n - a := by have h1 := HL.out; have h2 := HND.out; rw [List.length_append] at hL; omega
      have CT := HCI.out (a : Int) ((a : Int) + 20) D (E.take 20) (E.drop 20) wr (by rw [List.append_assoc, List.take_append_drop, hL]; exact HL.out.trans HND.out) (by rw [hD]) (by rw [hD, List.length_take]; omega) (by rw [List.append_assoc, List.take_append_drop]; exact hW)
      have HK : Aside (∀ M w2, Srt M (E.take 20) → Nw w0 g (D ++ M ++ E.drop 20) w2 → ∃ (D E : List NearZ) (q : Nat), D.length = a + 20 ∧ a + 20 = q * 20 ∧ Blk 20 D ∧ Same (D ++ E) L ∧ (D ++ E).length = L.length ∧ Nw w0 g (D ++ E) w2) := fun M w2 k1 k2 => by
        have hml : M.length = 20 := by rw [k1.2.2, List.length_take]; omega
        refine ⟨D ++ M, E.drop 20, q + 1, by rw [List.length_append]; omega, by omega, Blk.app (hD.trans hq) hB (by omega) k1.1, ?_, ?_, k2⟩
        · refine Same.trans ?_ hS
          have := ((Same.refl D).app k1.2.1).app (Same.refl (E.drop 20))
          rwa [List.append_assoc (D), List.append_assoc D, List.take_append_drop, ← List.append_assoc] at this
        · rw [← hL, List.length_append, List.length_append, List.length_append, List.length_drop]; omega
      clear H hD hq hB hS hL hW hEl
      go_wp2_with fail
      refine CT.mono ?_
      rintro e w2 ⟨rfl, M, hM, hw2⟩
      have HN : Hid _ := HK.out M w2 hM hw2
      clear hM hw2 CT HK
      have hnx : (((a + 20 : Nat) : Int)) = (a : Int) + 20 := by omega
      go_wp2
      go_roundg (n - (a + 20))
      case measure => omega
      case rel => exact ⟨a + 20, by go_num, by go_num, hlt, Nat.le_refl _, HN⟩
    · have hltz : ¬ (a : Int) + 20 ≤ (n : Int) := by omega
      obtain ⟨D, E, q, hD, hq, hB, hS, hL, hW⟩ := H.out
      have hEl : E.length = n - a := by have h1 := HL.out; have h2 := HND.out; rw [List.length_append] at hL; omega
      have CT := HCI.out (a : Int) (n : Int) D E [] wr (by rw [List.append_nil, hL]; exact HL.out.trans HND.out) (by rw [hD]) (by rw [hD]; omega) (by rw [List.append_nil]; exact hW)
      have HK : Aside (∀ M w2, Srt M E → Nw w0 g (D ++ M ++ []) w2 → Held11 w0 g 20 L w2) := fun M w2 k1 k2 => by
        refine ⟨D ++ M, Blk.app (hD.trans hq) hB (by rw [k1.2.2]; omega) k1.1, ((Same.refl D).app k1.2.1).trans hS, by rw [← hL, List.length_append, List.length_append, k1.2.2], by simpa using k2⟩
      clear H hD hq hB hS hL hW hEl
      go_wp2_with fail
      refine CT.mono ?_
      rintro e w2 ⟨rfl, M, hM, hw2⟩
      have HN : Hid _ := HK.out M w2 hM hw2
      clear hM hw2 CT HK
      go_wp2_with fail
      go_loopg [6, 7, 8, 9] n (fun gk2 v6 v7 v8 v9 wr2 => ∃ k : Nat, v6 = .int .i64 k ∧ 0 < k ∧ k ≤ 2000000 ∧ n - k ≤ gk2 ∧ Hid (Held11 w0 g k L wr2))
      case atStart => exact ⟨20, rfl, by omega, by omega, by omega, HN⟩
      case round =>
        clear HN
        obtain ⟨k, rfl, hk0, hk1, hgk2, HN⟩ := hrel
        by_cases hkn : k < n
        · have hknz : (k : Int) < (n : Int) := by omega
          go_wp2
          go_loopg [7, 8] n (fun gk3 va vb wr3 => ∃ a : Nat, va = .int .i64 a ∧ vb = .int .i64 ((a : Int) + 2 * (k : Int)) ∧ a ≤ n ∧ n - a ≤ gk3 ∧ Hid (Half11 w0 g k a L wr3))
          case atStart =>
            obtain ⟨M, h1, h2, h3, h4⟩ := HN.out
            exact ⟨0, rfl, by go_num, by omega, by omega, [], M, 0, rfl, by simp, Blk.nil _, h1, h2, h3, h4⟩
          case round =>
            clear HN
            obtain ⟨a, rfl, rfl, han, hgk3, H⟩ := hrel
            obtain ⟨D, E, q, hD, hq, hB, hE, hS, hL, hW⟩ := H.out
            have hEl : E.length = n - a := by have h1 := HL.out; have h2 := HND.out; rw [List.length_append] at hL; omega
            clear H
            by_cases hlt : a + 2 * k ≤ n
            · have hltz : (a : Int) + 2 * (k : Int) ≤ (n : Int) := by omega
              have e1 : E.take k ++ ((E.drop k).take k ++ (E.drop k).drop k) = E := by rw [List.take_append_drop, List.take_append_drop]
              have l1 : (E.take k).length = k := by rw [List.length_take]; omega
              have l2 : ((E.drop k).take k).length = k := by rw [List.length_take, List.length_drop]; omega
              have l3 : ((E.drop k).drop k).length = n - a - 2 * k := by rw [List.length_drop, List.length_drop]; omega
              have CT := HCM.out (a : Int) ((a : Int) + (k : Int)) ((a : Int) + 2 * (k : Int)) D (E.take k) ((E.drop k).take k) ((E.drop k).drop k) wr (by rw [List.append_assoc, List.append_assoc, e1, hL]; exact HL.out.trans HND.out) (by rw [hD]) (by rw [hD, l1]) (by rw [hD, l1, l2]; omega) (by omega) (by omega) hE.head hE.tail.head (by rw [List.append_assoc, List.append_assoc, e1]; exact hW)
              have HK : Aside (∀ M w2, Srt M (E.take k ++ (E.drop k).take k) → Nw w0 g (D ++ M ++ (E.drop k).drop k) w2 → Half11 w0 g k (a + 2 * k) L w2) := fun M w2 k1 k2 => by
                have hml : M.length = 2 * k := by rw [k1.2.2, List.length_append]; omega
                refine ⟨D ++ M, (E.drop k).drop k, q + 1, by rw [List.length_append]; omega, by rw [Nat.add_mul]; omega, Blk.app (hD.trans hq) hB (by omega) k1.1, hE.tail.tail, ?_, ?_, k2⟩
                · refine Same.trans ?_ hS
                  have := ((Same.refl D).app k1.2.1).app (Same.refl ((E.drop k).drop k))
                  rwa [List.append_assoc D (List.take k E ++ _), List.append_assoc (List.take k E), e1] at this
                · rw [← hL, List.length_append, List.length_append, List.length_append]; omega
              clear hD hq hB hE hS hL hW hEl e1 l1 l2 l3
              go_wp2_with fail
              refine CT.mono ?_
              rintro e w2 ⟨rfl, M, hM, hw2⟩
              have HN : Hid _ := HK.out M w2 hM hw2
              clear hM hw2 CT HK
              go_wp2
              go_roundg (n - (a + 2 * k))
              case measure => omega
              case rel => exact ⟨a + 2 * k, by go_num, by go_num, hlt, Nat.le_refl _, HN⟩
            · have hltz : ¬ (a : Int) + 2 * (k : Int) ≤ (n : Int) := by omega
              by_cases hmn : a + k < n
              · have hmnz : (a : Int) + (k : Int) < (n : Int) := by omega
                have l1 : (E.take k).length = k := by rw [List.length_take]; omega
                have l2 : (E.drop k).length = n - a - k := by rw [List.length_drop]; omega
                have CT := HCM.out (a : Int) ((a : Int) + (k : Int)) (n : Int) D (E.take k) (E.drop k) [] wr (by rw [List.append_nil, List.append_assoc, List.take_append_drop, hL]; exact HL.out.trans HND.out) (by rw [hD]) (by rw [hD, l1]) (by rw [hD, l1, l2]; omega) (by omega) (by omega) hE.head (hE.tail.all (by omega)) (by rw [List.append_nil, List.append_assoc, List.take_append_drop]; exact hW)
                have HK : Aside (∀ M w2, Srt M (E.take k ++ E.drop k) → Nw w0 g (D ++ M ++ []) w2 → Held11 w0 g (2 * k) L w2) := fun M w2 k1 k2 => by
                  rw [List.take_append_drop] at k1
                  exact ⟨D ++ M, Blk.app (hD.trans hq) hB (by rw [k1.2.2]; omega) k1.1, ((Same.refl D).app k1.2.1).trans hS, by rw [← hL, List.length_append, List.length_append, k1.2.2], by simpa using k2⟩
                clear hD hq hB hE hS hL hW hEl l1 l2
                go_wp2_with fail
                refine CT.mono ?_
                rintro e w2 ⟨rfl, M, hM, hw2⟩
                have HN : Hid _ := HK.out M w2 hM hw2
                clear hM hw2 CT HK
                go_wp2
                go_roundg (n - 2 * k)
                case measure => omega
                case rel => exact ⟨2 * k, by go_num, by omega, by omega, Nat.le_refl _, HN⟩
              · have hmnz : ¬ (a : Int) + (k : Int) < (n : Int) := by omega
                have HN : Hid (Held11 w0 g (2 * k) L wr) := ⟨D ++ E, Blk.app (hD.trans hq) hB (by omega) (hE.all (by omega)), hS, hL, hW⟩
                clear hD hq hB hE hS hL hW hEl
                go_wp2
                go_roundg (n - 2 * k)
                case measure => omega
                case rel => exact ⟨2 * k, by go_num, by omega, by omega, Nat.le_refl _, HN⟩
        · have hknz : ¬ (k : Int) < (n : Int) := by omega
          obtain ⟨M, h1, h2, h3, h4⟩ := HN.out
          have HE : Aside (∃ M, Srt M L ∧ Nw w0 g M wr) := ⟨M, ⟨h1.all (by have := HL.out; have := HND.out; omega), h2, h3⟩, h4⟩
          clear h1 h2 h3 h4 HN
          go_wp2
          go_end0
          exact ⟨rfl, HE.out⟩
theorem sort_any (w0 : World) (g cap : Nat) (d0 : Array NearZ) (R : RowK nearC 7 w0 g 0 d0) (hsz : d0.size ≤ 1000000) (L : List NearZ) (hl : L.length = d0.size) (W : World) (hW : Nw w0 g L W) :
    Calls Try.prog 25 #[.slice (some ⟨g, 0, none⟩) d0.size cap, .func (.func 26) #[] #[]] W fun e w' => e = .returned (.tuple #[]) ∧ ∃ M, Srt M L ∧ Nw w0 g M w' := by
  have CT := stable_any w0 g cap d0 R hsz L hl W hW
  clear hW hl
  go_enter Try.func25, Try.ntmps25
  go_wp2_with fail
  refine CT.mono ?_
  rintro e w2 ⟨rfl, hM⟩
  have HM : Aside _ := hM
  clear hM CT
  go_wp2
  go_end0
  exact ⟨rfl, HM.out⟩
end Go.Proofs.Ytgljblnegiadlaa
