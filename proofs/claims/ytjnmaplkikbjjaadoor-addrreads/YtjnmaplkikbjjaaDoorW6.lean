/- The contract of package addr's Read. -/
import Derived.Test.YtjnmaplkikbjjaaDoorP2
namespace Go.Proofs.YtjnmaplkikbjjaaDoor
open Go.RowKit

theorem splitK_len (sep : List UInt8) : ∀ (k : Nat) (s : List UInt8), ∀ x ∈ Lib.splitK sep 0 k s, x.length ≤ s.length
  | 0, s, x, h => by simp [Lib.splitK] at h; rw [h]; omega
  | k + 1, s, x, h => by
    unfold Lib.splitK at h
    split at h
    · simp at h; rw [h]; omega
    · rcases List.mem_cons.1 h with rfl | h
      · simp; omega
      · have := splitK_len sep k _ x h
        simp at this; omega

/-- The text's parts. -/
def pieces (s : ByteArray) : List ByteArray := Lib.splitB ⟨#[46]⟩ 0 (Lib.countB s ⟨#[46]⟩) s
theorem pieces_len (s : ByteArray) : (pieces s).length = Lib.countB s ⟨#[46]⟩ + 1 := Lib.splitB_all ⟨#[46]⟩ (by decide) 0 _ s rfl
theorem pieces_data (s : ByteArray) : (pieces s).map (·.data.toList) = Lib.split s.data.toList [46] := Lib.splitB_data ⟨#[46]⟩ 0 _ s
theorem piece_size (s : ByteArray) (k : Nat) (h : k < (pieces s).length) : (pieces s)[k].data.toList.length ≤ s.data.toList.length := by
  have h1 : (pieces s)[k].data.toList ∈ (pieces s).map (·.data.toList) := List.mem_map.2 ⟨_, List.getElem_mem h, rfl⟩
  rw [pieces_data] at h1
  exact splitK_len _ _ _ _ h1
theorem fold_some (s : ByteArray) (k : Nat) (h : k < (pieces s).length) (a n : Int) (e : Lib.atoi (pieces s)[k].data.toList = some n) :
    foldR (((pieces s).map (·.data.toList)).drop k) a = foldR (((pieces s).map (·.data.toList)).drop (k + 1)) (bits .or .i64 (wrap64 (a * 256)) n) := by
  rw [List.drop_eq_getElem_cons (by simpa using h), foldR, List.getElem_map, e]
theorem fold_none (s : ByteArray) (k : Nat) (h : k < (pieces s).length) (a : Int) (e : Lib.atoi (pieces s)[k].data.toList = none) :
    foldR (((pieces s).map (·.data.toList)).drop k) a = none := by
  rw [List.drop_eq_getElem_cons (by simpa using h), foldR, List.getElem_map, e]
theorem fold_end (s : ByteArray) (k : Nat) (h : ¬ k < (pieces s).length) (a : Int) : foldR (((pieces s).map (·.data.toList)).drop k) a = some a := by
  rw [List.drop_of_length_le (by simp; omega)]; rfl

set_option maxRecDepth 100000 in
set_option maxHeartbeats 1600000 in
theorem read_any (s : ByteArray) (w : World) (E : Env w) (hs : s.size ≤ maxLen) :
    Calls Tryd.prog 25 #[.string s] w fun e w' => ∃ x y, e = .returned (.tuple #[.int .i64 x, .int .i64 y]) ∧ ReadIs s.data.toList x y ∧ Below w.heap.size w w' := by
  unfold maxLen at hs
  have hsl : s.data.toList.length = s.size := by rw [Array.length_toList]; rfl
  by_cases hl : 15 < s.size
  · go_enter Tryd.func25, Tryd.ntmps25
    go_wp2
    go_ret2
    exact ⟨_, _, rfl, readIs_long _ (by omega), Below.refl _ _⟩
  · obtain ⟨m, hm⟩ := E.ml
    have hn := pieces_len s
    have hnb : (pieces s).length ≤ 16 := by
      have h1 := Lib.countB_le ⟨#[46]⟩ (by decide) s.size s (Nat.le_refl _)
      omega
    go_enter Tryd.func25, Tryd.ntmps25
    go_wp2_with fail
    refine (Tryd.strings_Split s ⟨#[46]⟩ m _ (by omega) hm (by decide)).mono ?_
    rintro e w1 ⟨rfl, hw1⟩
    have hb1 : Below w.heap.size w w1 := by rw [hw1]; exact (Below.refl _ _).alloc (Nat.le_refl _) _
    have hz1 : w.heap.size < w1.heap.size := by rw [hw1]; simp
    have hc1 : Hid (∀ k (h : k < (pieces s).length), w1.cell? ⟨w.heap.size, k, none⟩ = some (.string (pieces s)[k])) := by
      intro k h
      rw [hw1]
      simp [pieces]
    rw [← hn]
    clear hw1 hn
    go_wp2
    go_loopw [4, 15] (fun a i wr => ∃ (k : Nat) (A : Int), k ≤ (pieces s).length ∧ i = .int .i64 k ∧ a = .int .i64 A ∧ Below w1.heap.size w1 wr ∧ Hid (foldR (((pieces s).map (·.data.toList)).drop k) A = foldR (Lib.split s.data.toList [46]) 0)) (fun _ i _ => (pieces s).length - (intOf i).toNat)
    case atStart => exact ⟨0, 0, by omega, rfl, rfl, Below.refl _ _, by rw [pieces_data]; rfl⟩
    case round =>
      obtain ⟨k, A, hk, rfl, rfl, hb, H⟩ := hrel
      by_cases hlt : k < (pieces s).length
      · have hc := (hb.cell (p := ⟨w.heap.size, k, none⟩) hz1).trans (hc1.out k hlt)
        have hps := piece_size s k hlt
        have hps2 : (pieces s)[k].data.toList.length = (pieces s)[k].size := by rw [Array.length_toList]; rfl
        have E1 := (E.below hb1 E.sz).below hb (E.below hb1 E.sz).sz
        cases ha : Lib.atoi (pieces s)[k].data.toList with
        | some n =>
          have HF : Hid (foldR (((pieces s).map (·.data.toList)).drop k) A = foldR (((pieces s).map (·.data.toList)).drop (k + 1)) (bits .or .i64 (wrap64 (A * 256)) n)) := fold_some s k hlt A n ha
          have HA : Hid (Lib.atoi (pieces s)[k].data.toList = some n) := ha
          clear ha
          go_wp2_with fail
          refine (Tryd.strconv_Atoi _ n (by omega) HA.out _).mono ?_
          rintro e w2 ⟨rfl, hw2⟩
          have hb2 : Below wr.heap.size wr w2 := by
            obtain ⟨t, rfl⟩ := hw2
            exact Joins.below_bytesWorld _ _ _ _ (Nat.le_refl _)
          clear hw2
          go_wp2
          go_roundw
          case rel => exact ⟨k + 1, _, by omega, by go_num, rfl, hb.trans (hb2.mono hb.size), HF.out.symm.trans H.out⟩
          case measure => simp [intOf]; omega
        | none =>
          have HF : Hid (foldR (((pieces s).map (·.data.toList)).drop k) A = none) := fold_none s k hlt A ha
          have HA : Hid (Lib.atoi (pieces s)[k].data.toList = none) := ha
          clear ha
          obtain ⟨tp, p, hv⟩ := E1.es
          go_wp2_with fail
          refine (Tryd.strconv_Atoi_err_var _ (by omega) HA.out tp p _ hv).mono ?_
          rintro e w2 ⟨N, rfl, -, -, hb2⟩
          clear hv
          go_wp2
          go_ret2
          exact ⟨_, _, rfl, readIs_none _ (H.out.symm.trans HF.out), hb1.trans ((hb.trans (hb2.mono hb.size)).mono hb1.size)⟩
      · have HF : Hid (foldR (((pieces s).map (·.data.toList)).drop k) A = some A) := fold_end s k hlt A
        have E1 := (E.below hb1 E.sz).below hb (E.below hb1 E.sz).sz
        go_wp2_with fail
        refine (text_any A _ E1).mono ?_
        rintro e w2 ⟨rfl, hb2⟩
        have hb3 : Below w.heap.size w w2 := hb1.trans ((hb.trans (hb2.mono hb.size)).mono hb1.size)
        by_cases he : textL A = s.data.toList
        · have h1 : (textL A == s.toList) = true := by rw [ByteArray.toList_eq]; simpa using he
          have h2 : Hid (textL A = s.data.toList) := he
          clear he
          go_wp2
          go_ret2
          exact ⟨_, _, rfl, readIs_some _ _ (H.out.symm.trans HF.out) h2.out, hb3⟩
        · have h1 : (textL A == s.toList) = false := by rw [ByteArray.toList_eq]; simpa using he
          have h2 : Hid (¬ textL A = s.data.toList) := he
          clear he
          go_wp2
          go_ret2
          exact ⟨_, _, rfl, readIs_other _ _ (H.out.symm.trans HF.out) h2.out, hb3⟩
end Go.Proofs.YtjnmaplkikbjjaaDoor
