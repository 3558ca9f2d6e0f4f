/- Masks of addresses, and their bits. -/
import Derived.Test.YtmcemhkhgccojaaY8A
namespace Go.Proofs.Ytmcemhkhgccojaa
open Go.RowKit

/-- That many ones of 32 bits, from the highest on. -/
def maskN (b : Nat) : Int := 2 ^ 32 - 2 ^ (32 - b)
/-- What stands for the bits: 0 to 32. -/
def clampN (b : Int) : Nat := if 32 < b then 32 else b.toNat
theorem clampN_le (b : Int) : clampN b ≤ 32 := by unfold clampN; split <;> omega
theorem clampN_of (b : Int) (h0 : 0 ≤ b) (h : b ≤ 32) : clampN b = b.toNat := by unfold clampN; rw [if_neg (by omega)]
theorem maskN_fin : ∀ b : Fin 33, bits .andNot .i64 4294967295 (4294967295 / 2 ^ b.val) = maskN b.val ∧ bits .and .i64 (wrap64 (4294967295 * 2 ^ (32 - b.val))) 4294967295 = maskN b.val := by decide +kernel
theorem maskN_not (b : Nat) (h : b ≤ 32) : bits .andNot .i64 4294967295 (4294967295 / 2 ^ b) = maskN b := (maskN_fin ⟨b, by omega⟩).1
theorem maskN_shl (b : Nat) (h : b ≤ 32) : bits .and .i64 (wrap64 (4294967295 * 2 ^ (32 - b))) 4294967295 = maskN b := (maskN_fin ⟨b, by omega⟩).2
/-- Which mask it is, from k on. -/
def bitsFrom (m : Int) : Nat → Nat → Int
  | 0, _ => -1
  | f + 1, k => if maskN k = m then (k : Int) else bitsFrom m f (k + 1)
/-- The length whose mask it is, or -1. -/
def bitsZ (m : Int) : Int := bitsFrom m 33 0
theorem bitsFrom_zero (m : Int) (k : Nat) : bitsFrom m 0 k = -1 := rfl
theorem bitsFrom_hit (m : Int) (f k : Nat) (h : maskN k = m) : bitsFrom m (f + 1) k = k := by rw [bitsFrom, if_pos h]
theorem bitsFrom_miss (m : Int) (f k : Nat) (h : ¬ maskN k = m) : bitsFrom m (f + 1) k = bitsFrom m f (k + 1) := by rw [bitsFrom, if_neg h]
set_option maxHeartbeats 400000 in
theorem mask_any (a : Int) (w : World) :
    Calls Try.prog 94 #[.int .i64 a] w fun e w' => e = .returned (.int .i64 (maskN (clampN a))) ∧ w' = w := by
  by_cases h1 : 32 < a
  · have e1 := maskN_not 32 (by omega)
    go_enter Try.func94, Try.ntmps94
    go_wp2
    go_ret
    exact ⟨ret_int (by rw [clampN, if_pos h1]; exact e1), rfl⟩
  · by_cases h2 : 0 < a
    · go_enter Try.func94, Try.ntmps94
      go_wp2
      go_ret
      exact ⟨ret_int (by rw [clampN, if_neg (by omega)]; exact maskN_not _ (by omega)), rfl⟩
    · have e0 : clampN a = 0 := by unfold clampN; rw [if_neg h1]; omega
      go_enter Try.func94, Try.ntmps94
      go_wp2
      go_ret
      exact ⟨ret_int (maskN_not 0 (by omega)), rfl⟩

set_option maxHeartbeats 400000 in
theorem rmask_any (a : Int) (w : World) :
    Calls Try.prog 62 #[.int .i64 a] w fun e w' => e = .returned (.int .i64 (maskN (clampN a))) ∧ w' = w := by
  by_cases h1 : 32 < a
  · go_enter Try.func62, Try.ntmps62
    go_wp2
    go_ret
    exact ⟨ret_int (by rw [clampN, if_pos h1]; decide +kernel), rfl⟩
  · by_cases h2 : 0 < a
    · go_enter Try.func62, Try.ntmps62
      go_wp2
      go_ret
      exact ⟨ret_int (by rw [clampN, if_neg (by omega), show (32 - a).toNat = 32 - a.toNat by omega]; exact maskN_shl _ (by omega)), rfl⟩
    · have e0 : clampN a = 0 := by unfold clampN; rw [if_neg h1]; omega
      go_enter Try.func62, Try.ntmps62
      go_wp2
      go_ret
      exact ⟨ret_int (maskN_shl 0 (by omega)), rfl⟩

theorem bits_step (m : Int) (k : Nat) (hk : k < 33) (H : bitsZ m = bitsFrom m (33 - k) k) (h : ¬ maskN k = m) : bitsZ m = bitsFrom m (33 - (k + 1)) (k + 1) := by
  rw [H, show 33 - k = (33 - (k + 1)) + 1 by omega, bitsFrom_miss m _ k h]
theorem bits_stop (m : Int) (k : Nat) (hk : k < 33) (H : bitsZ m = bitsFrom m (33 - k) k) (h : maskN k = m) : bitsZ m = k := by
  rw [H, show 33 - k = (33 - (k + 1)) + 1 by omega, bitsFrom_hit m _ k h]

theorem maskN_bd (b : Nat) (h : b ≤ 32) : 0 ≤ maskN b ∧ maskN b ≤ 4294967295 := by
  have : ∀ b : Fin 33, 0 ≤ maskN b.val ∧ maskN b.val ≤ 4294967295 := by decide +kernel
  exact this ⟨b, by omega⟩
theorem maskN_inj (a b : Nat) (ha : a ≤ 32) (hb : b ≤ 32) (h : maskN a = maskN b) : a = b := by
  have : ∀ a b : Fin 33, maskN a.val = maskN b.val → a.val = b.val := by decide +kernel
  exact this ⟨a, by omega⟩ ⟨b, by omega⟩ h
theorem bitsZ_mask (b : Nat) (hb : b ≤ 32) : bitsZ (maskN b) = b := by
  have : ∀ b : Fin 33, bitsZ (maskN b.val) = b.val := by decide +kernel
  exact this ⟨b, by omega⟩
theorem bitsFrom_is (m : Int) : ∀ (f k : Nat), (∃ j : Nat, k ≤ j ∧ j < k + f ∧ maskN j = m ∧ bitsFrom m f k = j) ∨ bitsFrom m f k = -1
  | 0, k => .inr rfl
  | f + 1, k => by
    by_cases h : maskN k = m
    · exact .inl ⟨k, Nat.le_refl _, by omega, h, bitsFrom_hit m f k h⟩
    · rw [bitsFrom_miss m f k h]
      rcases bitsFrom_is m f (k + 1) with ⟨j, h1, h2, h3, h4⟩ | h4
      · exact .inl ⟨j, by omega, by omega, h3, h4⟩
      · exact .inr h4
theorem bitsZ_is (m : Int) : (∃ j : Nat, j ≤ 32 ∧ maskN j = m ∧ bitsZ m = j) ∨ bitsZ m = -1 := by
  rcases bitsFrom_is m 33 0 with ⟨j, _, h2, h3, h4⟩ | h4
  · exact .inl ⟨j, by omega, h3, h4⟩
  · exact .inr h4
end Go.Proofs.Ytmcemhkhgccojaa
/- The bytes of advertisements. -/
namespace Go.Proofs.Ytmcemhkhgccojaa

def headZ (h : HeadZ) : List Int := be2 h.age ++ [0, h.kind % 256] ++ be4 h.id ++ be4 h.adv ++ be4 h.seq ++ be2 h.sum ++ be2 h.len
def linkZ (k : LinkZ) : List Int := be4 k.id ++ be4 k.data ++ [k.kind % 256, 0] ++ be2 k.cost
def vertZ (v : VertZ) : List Int := be4 v.kind ++ be4 v.id
def bodyZ (l : LsaZ) : List Int :=
  if l.head.kind = 1 then ([l.flags % 256, 0] ++ be2 l.links.length) ++ l.links.flatMap linkZ
  else if l.head.kind = 2 then be4 (maskN (clampN l.bits)) ++ l.routers.flatMap be4
  else if l.head.kind = 6 then l.verts.flatMap vertZ else []
def layZ (l : LsaZ) : List Int := headZ l.head ++ bodyZ l
theorem headZ_length (h : HeadZ) : (headZ h).length = 20 := rfl
theorem flat_length {α : Type} (f : α → List Int) (m : Nat) (hf : ∀ x, (f x).length = m) (l : List α) : (l.flatMap f).length = l.length * m := by
  induction l with
  | nil => simp
  | cons x l ih => rw [List.flatMap_cons, List.length_append, List.length_cons, ih, hf, Nat.add_mul]; omega
theorem take_flat {α : Type} (f : α → List Int) (l : List α) (k : Nat) (hk : k < l.length) : (l.take (k + 1)).flatMap f = (l.take k).flatMap f ++ f l[k] := by
  rw [← List.take_append_getElem hk, List.flatMap_append]; simp
theorem flat_bd {α : Type} (f : α → List Int) (hf : ∀ x, ∀ z ∈ f x, 0 ≤ z ∧ z ≤ 255) (l : List α) : ∀ z ∈ l.flatMap f, 0 ≤ z ∧ z ≤ 255 := by
  intro z hz
  obtain ⟨x, _, hx⟩ := List.mem_flatMap.1 hz
  exact hf x z hx
theorem app_bd {a b : List Int} (ha : ∀ z ∈ a, 0 ≤ z ∧ z ≤ 255) (hb : ∀ z ∈ b, 0 ≤ z ∧ z ≤ 255) : ∀ z ∈ a ++ b, 0 ≤ z ∧ z ≤ 255 := by
  intro z hz
  rcases List.mem_append.1 hz with h | h
  · exact ha z h
  · exact hb z h
theorem two_bd {a b : Int} (ha : 0 ≤ a ∧ a ≤ 255) (hb : 0 ≤ b ∧ b ≤ 255) : ∀ z ∈ [a, b], 0 ≤ z ∧ z ≤ 255 := by
  intro z hz; simp at hz; omega
theorem headZ_bd (h : HeadZ) : ∀ z ∈ headZ h, 0 ≤ z ∧ z ≤ 255 :=
  app_bd (app_bd (app_bd (app_bd (app_bd (app_bd (be2_bd _) (two_bd (by omega) (by omega))) (be4_bd _)) (be4_bd _)) (be4_bd _)) (be2_bd _)) (be2_bd _)
theorem linkZ_bd (k : LinkZ) : ∀ z ∈ linkZ k, 0 ≤ z ∧ z ≤ 255 := app_bd (app_bd (app_bd (be4_bd _) (be4_bd _)) (two_bd (by omega) (by omega))) (be2_bd _)
theorem vertZ_bd (k : VertZ) : ∀ z ∈ vertZ k, 0 ≤ z ∧ z ≤ 255 := app_bd (be4_bd _) (be4_bd _)
theorem bodyZ_bd (l : LsaZ) : ∀ z ∈ bodyZ l, 0 ≤ z ∧ z ≤ 255 := by
  unfold bodyZ
  split
  · exact app_bd (app_bd (two_bd (by omega) (by omega)) (be2_bd _)) (flat_bd _ linkZ_bd _)
  · split
    · exact app_bd (be4_bd _) (flat_bd _ be4_bd _)
    · split
      · exact flat_bd _ vertZ_bd _
      · intro z hz; cases hz
theorem layZ_bd (l : LsaZ) : ∀ z ∈ layZ l, 0 ≤ z ∧ z ≤ 255 := app_bd (headZ_bd _) (bodyZ_bd _)
theorem bodyZ_length (l : LsaZ) : (bodyZ l).length = if l.head.kind = 1 then 4 + l.links.length * 12 else if l.head.kind = 2 then 4 + l.routers.length * 4 else if l.head.kind = 6 then l.verts.length * 8 else 0 := by
  unfold bodyZ
  split
  · rw [List.length_append, flat_length linkZ 12 (fun _ => rfl)]; rfl
  · split
    · rw [List.length_append, flat_length be4 4 (fun _ => rfl)]; rfl
    · split
      · rw [flat_length vertZ 8 (fun _ => rfl)]
      · rfl
end Go.Proofs.Ytmcemhkhgccojaa
/- Appending to a slice that is nil: bytes, and rows of structs. -/
namespace Go.Proofs.Ytmcemhkhgccojaa
open Go.RowKit

theorem info_link : (Try.prog.info? 93).map (fun i => (i.zero, i.size, i.bytes)) = some (some (.agg #[.int .i64 0, .int .i64 0, .int .i64 0, .int .i64 0]), 4, 32) := by kernel_rfl
theorem info_vert : (Try.prog.info? 64).map (fun i => (i.zero, i.size, i.bytes)) = some (some (.agg #[.int .i64 0, .int .i64 0]), 2, 16) := by kernel_rfl
/-- A first append of bytes to nil. -/
theorem wp_append_first {ops : Array Oper} {rest : List Oper} {o : Oper} {a : Act} {Q : Exit → Act → World → Prop} (w : World) (hgd : o.guard = none) (s x : Operand)
    (ho : o.op = .call { callee := .builtin .append, args := #[s, x], argTypes := #[78, 78] }) (hs : a.eval s = .slice none 0 0)
    (base : Nat) (hbase : base ≤ w.heap.size) (ad : Addr) (m c : Nat) (hx : a.eval x = .slice (some ad) m c) (zs : List Int) (hm : m = zs.length) (hB : Bts w (some ad) zs) (hpos : 0 < m) (hl : zs.length ≤ 140737488355328)
    (h : ∀ g' cp w', Owns w' base g' cp zs → Below w.heap.size w w' → wpList Try.prog ops Q rest (a.put o.dst (.slice (some ⟨g', 0, none⟩) m cp)) w') : wpList Try.prog ops Q (o :: rest) a w := by
  subst hm
  obtain ⟨i, hi, hz0, hz1, hz2⟩ := info_parts info_u8
  have hown : w.ownsRow base 5 1 (.slice none 0 0) 0 [] := ⟨by simp, .inl ⟨rfl, rfl⟩⟩
  refine wpList_append_own w hgd s x 78 ho base 5 i (.int .u8 0) 1 1 Try.underlying78 hi hz0 hz1 hz2 rfl (by decide) _ 0 [] hs hown ad zs.length c (zs.map (Value.int .u8)) hx (by simp) ?_ ?_ (by unfold maxLen; omega) (by omega) hbase ?_
  · intro j u hj
    have hjl : j < zs.length := by
      have := (List.getElem?_eq_some_iff.1 hj).1; simpa using this
    rcases hB with e | ⟨b, off, e, hc⟩
    · subst e; simp at hjl
    · cases e
      have hu : u = .int .u8 (zs.getD j 0) := by
        simp [hjl] at hj
        simp [hjl, hj]
      rw [hu, ← hc j hjl, addr_add]
  · intro u hu
    simp at hu
    obtain ⟨z, _, rfl⟩ := hu
    rfl
  · intro v' w' hown' hgrow hnil'
    rw [Nat.zero_add, List.nil_append] at hown'
    rcases hown'.2 with ⟨h', h0⟩ | ⟨g', cap', cur, h', _⟩
    · omega
    · subst h'
      exact h g' cap' w' hown' (grown_none hgrow)
end Go.Proofs.Ytmcemhkhgccojaa
/- Bytes appended to a row of the call's own: what else there is stays. -/
namespace Go.Proofs.Ytmcemhkhgccojaa
open Go.RowKit

/-- All but the row at block g stays; the row is there still, or in a new block. -/
structure Grew (w w' : World) (g g' : Nat) : Prop where
  size : w.heap.size ≤ w'.heap.size
  block : ∀ k, k < w.heap.size → k ≠ g → w'.heap[k]? = w.heap[k]?
  place : g' = g ∨ w.heap.size ≤ g'
theorem Grew.refl (w : World) (g : Nat) : Grew w w g g := ⟨Nat.le_refl _, fun _ _ _ => rfl, .inl rfl⟩
theorem Grew.trans {w w1 w2 : World} {g g1 g2 : Nat} (h : Grew w w1 g g1) (k : Grew w1 w2 g1 g2) : Grew w w2 g g2 := by
  have h1 := h.size; have h2 := k.size
  refine ⟨by omega, fun j hj hne => ?_, ?_⟩
  · rw [k.block j (by omega) (by rcases h.place with e | e <;> omega), h.block j hj hne]
  · rcases k.place with e | e
    · rw [e]; exact h.place
    · exact .inr (by omega)
theorem Grew.new {w : World} (g : Nat) (o : Obj) : Grew w (w.alloc o) g g := ⟨by simp, fun _ hk _ => heap_alloc_old w o hk, .inl rfl⟩
theorem Grew.cell {w w' : World} {g g' b i : Nat} (h : Grew w w' g g') (hb : b < w.heap.size) (hne : b ≠ g) : w'.cell? ⟨b, i, none⟩ = w.cell? ⟨b, i, none⟩ := World.cell?_of_block (h.block b hb hne)
theorem Grew.of {w w' : World} {g g' : Nat} (hg : w.grownBy w' (some g)) (hp : g' = g ∨ w.heap.size ≤ g') : Grew w w' g g' := ⟨hg.size, fun k hk hne => hg.block k hk (by simp [hne]), hp⟩

theorem append_place (w : World) (ty : TypeId) (base g cap : Nat) (ys : List Int) (hown : Owns w base g cap ys) (ad : Addr) (c : Nat) (zs : List Int) (hB : Bts w (some ad) zs) (hl : ys.length + zs.length ≤ 140737488355328) (hbase : base ≤ w.heap.size) :
    ∃ g' cp w', (Builtin.append_ #[78, 78] ty #[.slice (some ⟨g, 0, none⟩) ys.length cap, .slice (some ad) zs.length c]).run Try.prog w = .ok (.slice (some ⟨g', 0, none⟩) (ys.length + zs.length) cp) w' ∧ Owns w' base g' cp (ys ++ zs) ∧ w.grownBy w' (some g) ∧ (g' = g ∨ w.heap.size ≤ g') := by
  obtain ⟨i, hi, hz0, hz1, hz2⟩ := info_parts info_u8
  have hnews : ∀ j u, (zs.map (Value.int .u8))[j]? = some u → w.cell? (ad.add j) = some u := by
    intro j u hj
    have hjl : j < zs.length := by
      have := (List.getElem?_eq_some_iff.1 hj).1; simpa using this
    rcases hB with e | ⟨b, off, e, hc⟩
    · subst e; simp at hjl
    · cases e
      have hu : u = .int .u8 (zs.getD j 0) := by
        simp [hjl] at hj
        simp [hjl, hj]
      rw [hu, ← hc j hjl, addr_add]
  have h1 : ∀ u ∈ zs.map (Value.int .u8), u.oneCell' = true := by
    intro u hu
    simp at hu
    obtain ⟨z, _, rfl⟩ := hu
    rfl
  obtain ⟨v', w', hr, ho, hg, hn⟩ := run_append_own (P := Try.prog) w base 78 ty 5 i (.int .u8 0) 1 1 Try.underlying78 hi hz0 hz1 hz2 rfl (by decide) _ ys.length _ hown ad zs.length c (zs.map (Value.int .u8)) (by simp) hnews h1 (by unfold maxLen; omega) (by omega) hbase
  have ho2 : w'.ownsRow base 5 1 v' (ys ++ zs).length ((ys ++ zs).map (Value.int .u8)) := by simpa using ho
  rcases hown.2 with ⟨h', _⟩ | ⟨g0, cap0, cur, h', hbg, hgg, hnc, hcm, hcs, htake⟩
  · cases h'
  · simp only [Value.slice.injEq, Option.some.injEq, Addr.mk.injEq] at h'
    obtain ⟨⟨rfl, _, _⟩, _, rfl⟩ := h'
    by_cases hroom : ys.length + zs.length ≤ cap
    · have hr2 := run_append_room (P := Try.prog) w 78 ty 5 i Try.underlying78 hi g ys.length cap cur hgg ad zs.length c (zs.map (Value.int .u8)) (by rw [hz1]; simp) hnews h1 hroom (by rw [hz1, hcs]; simp; omega)
      rw [hr2] at hr
      simp only [Result.ok.injEq] at hr
      obtain ⟨rfl, rfl⟩ := hr
      exact ⟨g, cap, _, hr2, by unfold Owns; simpa using ho2, hg, .inl rfl⟩
    · have holds : ∀ j u, (ys.map (Value.int .u8))[j]? = some u → w.cell? ((⟨g, 0, none⟩ : Addr).add j) = some u := World.ownsRow.cells hown (g := g) rfl
      have hr2 := run_append_grow (P := Try.prog) w 78 ty 5 i (.int .u8 0) Try.underlying78 hi hz0 ⟨g, 0, none⟩ ys.length cap (ys.map (Value.int .u8)) (by rw [hz1]; simp) holds ad zs.length c (zs.map (Value.int .u8)) (by rw [hz1]; simp) hnews (by omega) (by omega) (growslice_fits (by omega) (by rw [hz2]; omega))
      rw [hr2] at hr
      simp only [Result.ok.injEq] at hr
      obtain ⟨rfl, rfl⟩ := hr
      exact ⟨w.heap.size, _, _, hr2, by unfold Owns; simpa using ho2, hg, .inr (Nat.le_refl _)⟩
/-- What an append to an own row of bytes leaves, and where. -/
theorem wp_append_at {ops : Array Oper} {rest : List Oper} {o : Oper} {a : Act} {Q : Exit → Act → World → Prop} (w : World) (hgd : o.guard = none) (s x : Operand)
    (ho : o.op = .call { callee := .builtin .append, args := #[s, x], argTypes := #[78, 78] }) (base g cap : Nat) (ys : List Int) (n : Nat) (hs : a.eval s = .slice (some ⟨g, 0, none⟩) n cap) (hn : n = ys.length) (hown : Owns w base g cap ys)
    (ad : Addr) (m c : Nat) (hx : a.eval x = .slice (some ad) m c) (zs : List Int) (hm : m = zs.length) (hB : Bts w (some ad) zs) (hl : ys.length + zs.length ≤ 140737488355328) (hbase : base ≤ w.heap.size)
    (h : ∀ g' cp w', Owns w' base g' cp (ys ++ zs) → w.grownBy w' (some g) → (g' = g ∨ w.heap.size ≤ g') → wpList Try.prog ops Q rest (a.put o.dst (.slice (some ⟨g', 0, none⟩) (n + m) cp)) w') : wpList Try.prog ops Q (o :: rest) a w := by
  subst hn hm
  obtain ⟨g', cp, w', hr, h2, h3, h4⟩ := append_place w o.type base g cap ys hown ad c zs hB hl hbase
  refine wpList_plain hgd fun _ hK => ?_
  unfold Oper.wp execOp
  simp only [ho, resolve, invoke, builtin, Sem.run_bind, Sem.run_pure, Result.andThen_ok, List.map_toArray, List.map_cons, List.map_nil, hs, hx, hr]
  exact hK _ _ (h g' cp w' h2 h3 h4)
end Go.Proofs.Ytmcemhkhgccojaa
/- Numbers appended as bytes to a row of the call's own. -/
namespace Go.Proofs.Ytmcemhkhgccojaa
open Go.RowKit

theorem snoc_be (zs ys : List Int) (k' k : Nat) (n : Int) (h : zs ++ beN (k' + 1) n = ys ++ beN k n) : (zs ++ [n / 2 ^ (8 * k') % 256]) ++ beN k' n = ys ++ beN k n := by
  rw [← h, beN]; simp
theorem wrap_u8_mod (x : Int) : IntKind.u8.wrap x = x % 256 := IntKind.wrap_u8 x

set_option maxHeartbeats 800000 in
theorem wappend_any (k : Nat) (hk : k ≤ 8) (n : Int) (base g cap : Nat) (ys : List Int) (w : World) (hown : Owns w base g cap ys) (hl : ys.length ≤ 70368744177664) (hbase : base ≤ w.heap.size) :
    Calls Try.prog 92 #[.slice (some ⟨g, 0, none⟩) ys.length cap, .int .i64 n, .int .i64 k] w fun e w' => ∃ g' cp, e = .returned (.slice (some ⟨g', 0, none⟩) (ys.length + k) cp) ∧ Owns w' base g' cp (ys ++ beN k n) ∧ Below base w w' ∧ Grew w w' g g' := by
  go_enter Try.func92, Try.ntmps92
  go_wp2
  go_loopw [0, 7] (fun v t wr => ∃ (k' : Nat) (zs : List Int) (m g' cp : Nat), v = .slice (some ⟨g', 0, none⟩) m cp ∧ t = .int .i64 (8 * ((k' : Int) - 1)) ∧ k' ≤ k ∧ m + k' = ys.length + k ∧ Hid (m = zs.length) ∧ Hid (zs ++ beN k' n = ys ++ beN k n) ∧ Hid (Owns wr base g' cp zs) ∧ Hid (Below base w wr) ∧ base ≤ wr.heap.size ∧ Hid (Grew w wr g g')) (fun _ t _ => (intOf t + 8).toNat)
  case atStart => exact ⟨k, ys, ys.length, g, cap, rfl, by go_num, by omega, rfl, rfl, rfl, hown, Below.refl _ _, hbase, Grew.refl _ _⟩
  case round =>
    obtain ⟨k', zs, m, g', cp, rfl, rfl, hk', hmk, hm, hz, ho, hb, hbs, hgr⟩ := hrel
    rcases k' with _ | k'
    · obtain rfl : m = ys.length + k := by omega
      have hzz : zs = ys ++ beN k n := by have := hz.out; simpa [beN] using this
      have HO : Hid (Owns wr base g' cp (ys ++ beN k n)) := hzz ▸ ho.out
      clear hzz hz ho hm hown
      go_wp2
      go_ret
      exact ⟨_, _, rfl, HO.out, hb.out, hgr.out⟩
    · have hzl : zs.length ≤ 70368744177664 + 8 := by have := hm.out; omega
      have e1 : (8 * (((k' + 1 : Nat) : Int) - 1)).toNat = 8 * k' := by omega
      clear hown
      go_wp2_with (at_builtin; go_must (refine wp_append_at _ rfl _ _ rfl base g' cp zs _ rfl hm.out (ho.out.alloc _) _ _ _ rfl [n / 2 ^ (8 * k') % 256] rfl ?_ (by simp; omega) (by simp; omega) ?_))
      · exact (bts_one _ _)
      intro g2 cp2 w2 ho2 hg2 hp2
      have HG2 : Hid (Grew w w2 g g2) := hgr.out.trans ((Grew.new g' _).trans (Grew.of hg2 (by simpa using hp2)))
      have hb2 : Below base w w2 := (hb.out.alloc hbs _).grown hg2 (by simp; omega) (fun j hj => by cases hj; exact ho.out.lt.1)
      have hs2 : base ≤ w2.heap.size := by have := ho2.lt; omega
      have HO2 : Hid (Owns w2 base g2 cp2 (zs ++ [n / 2 ^ (8 * k') % 256])) := ho2
      have HB2 : Hid (Below base w w2) := hb2
      clear ho hb ho2 hb2 hg2 hp2 hgr
      go_wp2
      go_roundw
      case rel => exact ⟨k', _, m + 1, g2, cp2, rfl, by go_num, by omega, by omega, by show _ = _; rw [hm.out]; simp, snoc_be _ _ _ _ _ hz.out, HO2.out, HB2.out, hs2, HG2.out⟩
      case measure => simp [intOf]; omega
theorem wappend2 (n : Int) (base g cap m : Nat) (ys : List Int) (w : World) (hown : Owns w base g cap ys) (hm : m = ys.length) (hl : ys.length ≤ 70368744177664) (hbase : base ≤ w.heap.size) :
    Calls Try.prog 92 #[.slice (some ⟨g, 0, none⟩) m cap, .int .i64 n, .int .i64 2] w fun e w' => ∃ g' cp, e = .returned (.slice (some ⟨g', 0, none⟩) (m + 2) cp) ∧ Owns w' base g' cp (ys ++ be2 n) ∧ Below base w w' ∧ Grew w w' g g' := by
  subst hm; rw [← beN_2]; exact wappend_any 2 (by omega) n base g cap ys w hown hl hbase
theorem wappend4 (n : Int) (base g cap m : Nat) (ys : List Int) (w : World) (hown : Owns w base g cap ys) (hm : m = ys.length) (hl : ys.length ≤ 70368744177664) (hbase : base ≤ w.heap.size) :
    Calls Try.prog 92 #[.slice (some ⟨g, 0, none⟩) m cap, .int .i64 n, .int .i64 4] w fun e w' => ∃ g' cp, e = .returned (.slice (some ⟨g', 0, none⟩) (m + 4) cp) ∧ Owns w' base g' cp (ys ++ be4 n) ∧ Below base w w' ∧ Grew w w' g g' := by
  subst hm; rw [← beN_4]; exact wappend_any 4 (by omega) n base g cap ys w hown hl hbase
end Go.Proofs.Ytmcemhkhgccojaa
