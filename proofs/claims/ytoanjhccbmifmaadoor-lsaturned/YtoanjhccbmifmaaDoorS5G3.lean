/- Lists read from bytes: vertices, numbers. -/
import Derived.Test.YtoanjhccbmifmaaDoorS5G2
namespace Go.Proofs.YtoanjhccbmifmaaDoor
open Go.RowKit

set_option maxHeartbeats 3200000 in
set_option maxRecDepth 20000 in
theorem readVerts_any (a : Option Addr) (n cap : Nat) (zs : List Int) (w : World) (hn : n = zs.length) (hS : Slice w a cap zs) (hl : zs.length ≤ 1000000) :
    Calls Tryd.prog 91 #[.slice a n cap, .int .i64 8, .func (.func 92) #[] #[]] w (ListEnd vertC w (readL 8 readVZ zs)) := by
  obtain ⟨i, hi, hz0, hz1, hz2⟩ := info_parts info_vert
  have HI : Hid (Tryd.prog.info? 58 = some i) := hi
  have H0 : Hid (_ = _) := hz0
  have H1 : Hid (_ = _) := hz1
  have H2 : Hid (_ = _) := hz2
  have HS0 : Hid (Slice w a cap zs) := hS
  have HN0 : Hid (n = zs.length) := hn
  have HLL : Hid ((readL 8 readVZ zs).length = zs.length / 8) := readL_length _ _ _
  have HLA : Hid (∀ k (h : k < (readL 8 readVZ zs).length), (readL 8 readVZ zs)[k] = readVZ (zs.drop (k * 8))) := readL_at _ _ _
  clear hS hn hi hz0 hz1 hz2
  generalize readL 8 readVZ zs = L at *
  go_enter Tryd.func91, Tryd.ntmps91
  go_wp2_with fail
  go_loopw [0, 7] (fun u v wr => ∃ (k n' c' : Nat) (rs : List Int) (a' : Option Addr), u = .slice a' n' c' ∧ Hid (n' = rs.length) ∧ Hid (rs = zs.drop (k * 8)) ∧ Hid (Slice w a' c' rs) ∧ Hid (wr.ownsRow w.heap.size 58 2 v k (cellsOf vertC (L.take k))) ∧ Hid (k ≤ zs.length / 8) ∧ Hid (Below w.heap.size w wr)) (fun u _ _ => lenOf u)
  case atStart => exact ⟨0, n, cap, zs, a, rfl, HN0.out, by show _ = _; simp, HS0.out, ⟨by simp [cellsOf], .inl ⟨rfl, rfl⟩⟩, Nat.zero_le _, Below.refl _ _⟩
  case round =>
    obtain ⟨k, n', c', rs, a', rfl, hn', hrs, hs, ho, hk, hb⟩ := hrel
    by_cases hlt : n' < 8
    · have hend : k = L.length := by
        rw [HLL.out]; exact readL_end (by rw [← hrs.out, ← hn'.out]; exact hlt) hk.out
      have HEND : Hid (ListEnd vertC w L (.returned u7) wr) := by
        have h1 := ho.out
        rw [hend, List.take_length] at h1
        exact list_end h1 hb.out (cells_none vertC)
      clear hend
      go_wp2
      go_ret
      exact HEND.out
    · have hkl : k < L.length := by rw [HLL.out]; exact readL_more (by decide) (by rw [← hrs.out, ← hn'.out]; omega)
      obtain ⟨b, off, rfl, hcell⟩ := slice_some (hs.out.below hb.out) (by rw [← hn'.out]; omega)
      have hroom := hs.out.room
      rw [← hn'.out] at hroom
      have HC : Hid (∀ i, i < 8 → wr.cell? ⟨b, off + i, none⟩ = some (.int .u8 (rs.getD i 0))) := fun i hi => hcell i (by rw [← hn'.out]; omega)
      have HZ : Hid (AreBytes rs) := hs.out.bd
      have HF : Hid (L[k] = readVZ rs) := by show _ = _; rw [HLA.out k hkl, ← hrs.out]
      have hbound : k < 1000000 := by have := hk.out; have := HLL.out; have : zs.length / 8 ≤ zs.length := Nat.div_le_self _ _; omega
      have hneg : ¬ c' < 8 := by omega
      clear hcell
      go_wp2_with fail
      refine (readVert_any b off c' rs wr HC.out HZ.out (by omega)).mono ?_
      rintro e w1 ⟨rfl, hb1⟩
      obtain ⟨q, hq⟩ : ∃ q, readVZ rs = q := ⟨_, rfl⟩
      have HQ : Hid (L[k] = q) := by show _ = _; rw [HF.out, hq]
      rw [hq]
      clear hq HF
      have HO1 : Hid (w1.ownsRow w.heap.size 58 2 u7 k (cellsOf vertC (L.take k))) := row_below ho.out hb1
      have HB1 : Hid (Below w.heap.size w w1) := below_more hb.out hb1 hb.out.size
      clear hb1 ho hb HC
      rw [show (vertC q).toArray = #[.int .i64 q.kind, .int .i64 q.id] from rfl]

      have HB2 : Hid (Below w.heap.size w (w1.alloc (.cells #[.int .i64 q.kind, .int .i64 q.id] 58))) := HB1.out.alloc HB1.out.size _
      have HO2 : Hid ((w1.alloc (.cells #[.int .i64 q.kind, .int .i64 q.id] 58)).ownsRow w.heap.size 58 2 u7 k (cellsOf vertC (L.take k))) := row_below HO1.out (below_new' _ _)
      have HL2 : Hid (Lies (w1.alloc (.cells #[.int .i64 q.kind, .int .i64 q.id] 58)) (some ⟨w1.heap.size, 0, none⟩) (vertC q)) := lies_new w1 (vertC q) _
      clear HO1 HB1
      go_wp2_with (at_builtin; go_must (refine wp_append_thing (w1.alloc (.cells #[.int .i64 q.kind, .int .i64 q.id] 58)) rfl _ _ 26 rfl 58 i _ 2 16 Tryd.underlying26 HI.out H0.out H1.out H2.out rfl (by decide) w.heap.size u7 k _ rfl HO2.out _ _ (vertC q) rfl rfl HL2.out (fun u hu => by simp [vertC] at hu; rcases hu with rfl | rfl <;> rfl) (by unfold maxLen; omega) (by omega) HB2.out.size ?_))
      intro v' w2 ho2 hb2
      have HO3 : Hid (w2.ownsRow w.heap.size 58 2 v' (k + 1) (cellsOf vertC (L.take (k + 1)))) := by
        rw [cells_take vertC L k hkl, HQ.out]; exact ho2
      have HB3 : Hid (Below w.heap.size w w2) := HB2.out.trans hb2
      have HK3 : Hid (k + 1 ≤ zs.length / 8) := by show _ ≤ _; rw [← HLL.out]; exact hkl
      have HR3 : Hid (rs.drop 8 = zs.drop ((k + 1) * 8)) := by show _ = _; rw [hrs.out, drop_more]
      have HN3 : Hid (n' - 8 = (rs.drop 8).length) := by show _ = _; rw [hn'.out]; simp
      have hsn := slice_next hs.out (m := 8) (by rw [← hn'.out]; omega)
      have HSN : Hid (∀ a' : Option Addr, (a' = some ⟨b, off + 8, none⟩ ∨ c' = 8 ∧ a' = some ⟨b, off, none⟩) → Slice w a' (c' - 8) (rs.drop 8)) := hsn
      clear ho2 hb2 HO2 HL2 HB2 hsn HQ
      by_cases hc8 : c' = 8
      · go_wp2
        go_roundw
        case rel => exact ⟨k + 1, n' - 8, 0, rs.drop 8, _, rfl, HN3.out, HR3.out, (by have h := HSN.out (some ⟨b, off, none⟩) (.inr ⟨hc8, rfl⟩); rwa [show c' - 8 = 0 by omega] at h), HO3.out, HK3.out, HB3.out⟩
        case measure => simp [lenOf]; omega
      · go_wp2
        go_roundw
        case rel => exact ⟨k + 1, n' - 8, c' - 8, rs.drop 8, _, rfl, HN3.out, HR3.out, HSN.out _ (.inl rfl), HO3.out, HK3.out, HB3.out⟩
        case measure => simp [lenOf]; omega
def readIZ (zs : List Int) : Int := num4At zs 0
set_option maxHeartbeats 3200000 in
set_option maxRecDepth 20000 in
theorem readInts_any (a : Option Addr) (n cap : Nat) (zs : List Int) (w : World) (hn : n = zs.length) (hS : Slice w a cap zs) (hl : zs.length ≤ 1000000) :
    Calls Tryd.prog 90 #[.slice a n cap, .int .i64 4, .func (.func 74) #[] #[]] w (ListEnd intC w (readL 4 readIZ zs)) := by
  obtain ⟨i, hi, hz0, hz1, hz2⟩ := info_parts info_int
  have HI : Hid (Tryd.prog.info? 3 = some i) := hi
  have H0 : Hid (_ = _) := hz0
  have H1 : Hid (_ = _) := hz1
  have H2 : Hid (_ = _) := hz2
  have HS0 : Hid (Slice w a cap zs) := hS
  have HN0 : Hid (n = zs.length) := hn
  have HLL : Hid ((readL 4 readIZ zs).length = zs.length / 4) := readL_length _ _ _
  have HLA : Hid (∀ k (h : k < (readL 4 readIZ zs).length), (readL 4 readIZ zs)[k] = readIZ (zs.drop (k * 4))) := readL_at _ _ _
  clear hS hn hi hz0 hz1 hz2
  generalize readL 4 readIZ zs = L at *
  go_enter Tryd.func90, Tryd.ntmps90
  go_wp2_with fail
  go_loopw [0, 7] (fun u v wr => ∃ (k n' c' : Nat) (rs : List Int) (a' : Option Addr), u = .slice a' n' c' ∧ Hid (n' = rs.length) ∧ Hid (rs = zs.drop (k * 4)) ∧ Hid (Slice w a' c' rs) ∧ Hid (wr.ownsRow w.heap.size 3 1 v k (cellsOf intC (L.take k))) ∧ Hid (k ≤ zs.length / 4) ∧ Hid (Below w.heap.size w wr)) (fun u _ _ => lenOf u)
  case atStart => exact ⟨0, n, cap, zs, a, rfl, HN0.out, by show _ = _; simp, HS0.out, ⟨by simp [cellsOf], .inl ⟨rfl, rfl⟩⟩, Nat.zero_le _, Below.refl _ _⟩
  case round =>
    obtain ⟨k, n', c', rs, a', rfl, hn', hrs, hs, ho, hk, hb⟩ := hrel
    by_cases hlt : n' < 4
    · have hend : k = L.length := by
        rw [HLL.out]; exact readL_end (by rw [← hrs.out, ← hn'.out]; exact hlt) hk.out
      have HEND : Hid (ListEnd intC w L (.returned u7) wr) := by
        have h1 := ho.out
        rw [hend, List.take_length] at h1
        exact list_end h1 hb.out (cells_none intC)
      clear hend
      go_wp2
      go_ret
      exact HEND.out
    · have hkl : k < L.length := by rw [HLL.out]; exact readL_more (by decide) (by rw [← hrs.out, ← hn'.out]; omega)
      obtain ⟨b, off, rfl, hcell⟩ := slice_some (hs.out.below hb.out) (by rw [← hn'.out]; omega)
      have hroom := hs.out.room
      rw [← hn'.out] at hroom
      have HC : Hid (∀ i, i < 4 → wr.cell? ⟨b, off + i, none⟩ = some (.int .u8 (rs.getD i 0))) := fun i hi => hcell i (by rw [← hn'.out]; omega)
      have HZ : Hid (AreBytes rs) := hs.out.bd
      have HF : Hid (L[k] = readIZ rs) := by show _ = _; rw [HLA.out k hkl, ← hrs.out]
      have hbound : k < 1000000 := by have := hk.out; have := HLL.out; have : zs.length / 4 ≤ zs.length := Nat.div_le_self _ _; omega
      have hneg : ¬ c' < 4 := by omega
      clear hcell
      go_wp2_with fail
      refine (wnum_4 b off 4 c' 0 off rs wr rfl HC.out HZ.out (by omega)).mono ?_
      rintro e w1 ⟨rfl, hw1⟩
      subst hw1
      obtain ⟨q, hq⟩ : ∃ q, num4At rs 0 = q := ⟨_, rfl⟩
      have HQ : Hid (L[k] = q) := by show _ = _; rw [HF.out]; exact hq
      rw [hq]
      clear hq HF
      have HO1 : Hid (w1.ownsRow w.heap.size 3 1 u7 k (cellsOf intC (L.take k))) := ho.out
      have HB1 : Hid (Below w.heap.size w w1) := hb.out
      clear ho hb HC

      have HB2 : Hid (Below w.heap.size w (w1.alloc (.cells #[.int .i64 q] 3))) := HB1.out.alloc HB1.out.size _
      have HO2 : Hid ((w1.alloc (.cells #[.int .i64 q] 3)).ownsRow w.heap.size 3 1 u7 k (cellsOf intC (L.take k))) := row_below HO1.out (below_new' _ _)
      have HL2 : Hid (Lies (w1.alloc (.cells #[.int .i64 q] 3)) (some ⟨w1.heap.size, 0, none⟩) (intC q)) := lies_new w1 (intC q) _
      clear HO1 HB1
      go_wp2_with (at_builtin; go_must (refine wp_append_thing (w1.alloc (.cells #[.int .i64 q] 3)) rfl _ _ 25 rfl 3 i _ 1 8 Tryd.underlying25 HI.out H0.out H1.out H2.out rfl (by decide) w.heap.size u7 k _ rfl HO2.out _ _ (intC q) rfl rfl HL2.out (fun u hu => by simp [intC] at hu; subst hu; rfl) (by unfold maxLen; omega) (by omega) HB2.out.size ?_))
      intro v' w2 ho2 hb2
      have HO3 : Hid (w2.ownsRow w.heap.size 3 1 v' (k + 1) (cellsOf intC (L.take (k + 1)))) := by
        rw [cells_take intC L k hkl, HQ.out]; exact ho2
      have HB3 : Hid (Below w.heap.size w w2) := HB2.out.trans hb2
      have HK3 : Hid (k + 1 ≤ zs.length / 4) := by show _ ≤ _; rw [← HLL.out]; exact hkl
      have HR3 : Hid (rs.drop 4 = zs.drop ((k + 1) * 4)) := by show _ = _; rw [hrs.out, drop_more]
      have HN3 : Hid (n' - 4 = (rs.drop 4).length) := by show _ = _; rw [hn'.out]; simp
      have hsn := slice_next hs.out (m := 4) (by rw [← hn'.out]; omega)
      have HSN : Hid (∀ a' : Option Addr, (a' = some ⟨b, off + 4, none⟩ ∨ c' = 4 ∧ a' = some ⟨b, off, none⟩) → Slice w a' (c' - 4) (rs.drop 4)) := hsn
      clear ho2 hb2 HO2 HL2 HB2 hsn HQ
      by_cases hc4 : c' = 4
      · go_wp2
        go_roundw
        case rel => exact ⟨k + 1, n' - 4, 0, rs.drop 4, _, rfl, HN3.out, HR3.out, (by have h := HSN.out (some ⟨b, off, none⟩) (.inr ⟨hc4, rfl⟩); rwa [show c' - 4 = 0 by omega] at h), HO3.out, HK3.out, HB3.out⟩
        case measure => simp [lenOf]; omega
      · go_wp2
        go_roundw
        case rel => exact ⟨k + 1, n' - 4, c' - 4, rs.drop 4, _, rfl, HN3.out, HR3.out, HSN.out _ (.inl rfl), HO3.out, HK3.out, HB3.out⟩
        case measure => simp [lenOf]; omega
end Go.Proofs.YtoanjhccbmifmaaDoor
