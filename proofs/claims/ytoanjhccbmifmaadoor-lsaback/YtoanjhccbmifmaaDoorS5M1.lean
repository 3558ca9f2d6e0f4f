/- Lists of advertisements, put one behind the other, in plain data and in memory. -/
import Derived.Test.YtoanjhccbmifmaaDoorS5L3
namespace Go.Proofs.YtoanjhccbmifmaaDoor
open Go.RowKit
set_option linter.unusedVariables false

abbrev SL := Seats × LsaZ
def slC (z : SL) : List Value := lsaL z.1 z.2
def layS (z : SL) : List Int := layZ (withHead z.2 (sealH z.2))
def packZ (L : List SL) : List Int := L.flatMap layS
theorem pack_take (L : List SL) (k : Nat) (h : k < L.length) : packZ (L.take (k + 1)) = packZ (L.take k) ++ layS L[k] := by
  unfold packZ; rw [← List.take_append_getElem h, List.flatMap_append]; simp
theorem pack_split (L : List SL) (k : Nat) (h : k < L.length) : packZ L = packZ (L.take k) ++ (layS L[k] ++ packZ (L.drop (k + 1))) := by
  unfold packZ
  conv => lhs; rw [← List.take_append_drop k L, List.flatMap_append, List.drop_eq_getElem_cons h, List.flatMap_cons]
theorem from_back (a h : List Int) : fromZ (a ++ h) (a.length : Int) = h := by
  unfold fromZ
  rw [if_neg (by simp; omega)]
  simp
theorem pack_from (L : List SL) (k : Nat) (h : k < L.length) : fromZ (packZ L) ((packZ (L.take k)).length : Int) = layS L[k] ++ packZ (L.drop (k + 1)) := by
  rw [pack_split L k h]; exact from_back _ _
theorem pack_bd (L : List SL) : AreBytes (packZ L) := flat_bd layS (fun z => layZ_bd _) L
theorem lay_le (z : SL) (h : rightLsaB z.2 = true) : (layS z).length ≤ 1000 := by
  have h1 := seal_lay_len z.2
  have h2 := right_len (rc_of h)
  rw [seal_len] at h1
  unfold layS; omega
theorem pack_le (L : List SL) (h : ∀ z ∈ L, rightLsaB z.2 = true) : (packZ L).length ≤ L.length * 1000 := by
  induction L with
  | nil => simp [packZ]
  | cons z L ih =>
    have h1 := ih (fun y hy => h y (List.mem_cons_of_mem _ hy))
    have h2 := lay_le z (h z (by simp))
    have e : packZ (z :: L) = layS z ++ packZ L := by unfold packZ; rw [List.flatMap_cons]
    rw [e, List.length_append, List.length_cons, Nat.add_mul]; omega
theorem Lsas.cells {w : World} {a : Option Addr} {L : List SL} (h : Lies w a (cellsOf slC L)) (i : Nat) (hi : i < L.length) :
    ∃ b off, a = some ⟨b, off, none⟩ ∧ w.cell? ⟨b, off + i * 12, none⟩ = some (.int .i64 L[i].2.head.age) ∧ w.cell? ⟨b, off + i * 12 + 1, none⟩ = some (.int .i64 L[i].2.head.kind) ∧ w.cell? ⟨b, off + i * 12 + 2, none⟩ = some (.int .i64 L[i].2.head.id) ∧ w.cell? ⟨b, off + i * 12 + 3, none⟩ = some (.int .i64 L[i].2.head.adv) ∧ w.cell? ⟨b, off + i * 12 + 4, none⟩ = some (.int .i64 L[i].2.head.seq) ∧ w.cell? ⟨b, off + i * 12 + 5, none⟩ = some (.int .i64 L[i].2.head.sum) ∧ w.cell? ⟨b, off + i * 12 + 6, none⟩ = some (.int .i64 L[i].2.head.len) ∧ w.cell? ⟨b, off + i * 12 + 7, none⟩ = some (.int .i64 L[i].2.flags) ∧ w.cell? ⟨b, off + i * 12 + 8, none⟩ = some (.slice L[i].1.la L[i].2.links.length L[i].1.lc) ∧ w.cell? ⟨b, off + i * 12 + 9, none⟩ = some (.int .i64 L[i].2.bits) ∧ w.cell? ⟨b, off + i * 12 + 10, none⟩ = some (.slice L[i].1.ra L[i].2.routers.length L[i].1.rc) ∧ w.cell? ⟨b, off + i * 12 + 11, none⟩ = some (.slice L[i].1.va L[i].2.verts.length L[i].1.vc) := by
  obtain ⟨b, off, rfl, hc⟩ := h.cell slC 12 (fun _ => rfl) (by rintro rfl; simp at hi) (by omega)
  exact ⟨b, off, rfl, hc i 0 hi (by omega), hc i 1 hi (by omega), hc i 2 hi (by omega), hc i 3 hi (by omega), hc i 4 hi (by omega), hc i 5 hi (by omega), hc i 6 hi (by omega), hc i 7 hi (by omega), hc i 8 hi (by omega), hc i 9 hi (by omega), hc i 10 hi (by omega), hc i 11 hi (by omega)⟩
theorem wp_append_row {ops : Array Oper} {rest : List Oper} {o : Oper} {a : Act} {Q : Exit → Act → World → Prop} (w : World) (hgd : o.guard = none) (s x : Operand)
    (ho : o.op = .call { callee := .builtin .append, args := #[s, x], argTypes := #[31, 31] }) (base : Nat) (hbase : base ≤ w.heap.size) (v : Value) (ys : List Int) (hs : a.eval s = v) (hown : w.ownsRow base 5 1 v ys.length (ys.map (Value.int .u8)))
    (ad : Addr) (m c : Nat) (hx : a.eval x = .slice (some ad) m c) (zs : List Int) (hm : m = zs.length) (hB : Bts w (some ad) zs) (hl : ys.length + zs.length ≤ 1000000)
    (h : ∀ v' w', w'.ownsRow base 5 1 v' (ys ++ zs).length ((ys ++ zs).map (Value.int .u8)) → Below base w w' → wpList Tryd.prog ops Q rest (a.put o.dst v') w') : wpList Tryd.prog ops Q (o :: rest) a w := by
  subst hm
  obtain ⟨i, hi, hz0, hz1, hz2⟩ := info_parts info_u8
  refine wpList_append_own w hgd s x 31 ho base 5 i (.int .u8 0) 1 1 Tryd.underlying31 hi hz0 hz1 hz2 rfl (by decide) v ys.length (ys.map (Value.int .u8)) hs hown ad zs.length c (zs.map (Value.int .u8)) hx (by simp) ?_ ?_ (by unfold maxLen; omega) (by omega) hbase ?_
  · intro j u hj
    have hjl : j < zs.length := by
      have := (List.getElem?_eq_some_iff.1 hj).1; simpa using this
    rcases hB with e | ⟨b, off, e, hc⟩
    · subst e; simp at hjl
    · cases e
      have hu : u = .int .u8 (zs.getD j 0) := by
        simp [hjl] at hj
        simp [hjl, hj]
      rw [hu, ← hc j hjl, addr_add]
  · intro u hu
    simp at hu
    obtain ⟨z, _, rfl⟩ := hu
    rfl
  · intro v' w' hown' hgrow _
    exact h v' w' (by rw [List.length_append, List.map_append]; exact hown') ((Below.refl _ _).grown hgrow hbase (fun k hk => (World.ownsRow.lt hown k hk).1))
theorem row_slice {w : World} {base : Nat} {v : Value} {zs : List Int} (h : w.ownsRow base 5 1 v zs.length (zs.map (Value.int .u8))) (hz : AreBytes zs) (hl : zs.length ≤ 1000000) : ∃ a cap, v = .slice a zs.length cap ∧ Slice w a cap zs := by
  rcases h.2 with ⟨h', h0⟩ | ⟨g', cap', cur, h', hbg, hg, r⟩
  · have : zs = [] := List.eq_nil_of_length_eq_zero h0
    subst this
    exact ⟨none, 0, by rw [h']; rfl, slice_nil w⟩
  · subst h'
    have ho : Owns w base g' cap' zs := h
    exact ⟨_, cap', rfl, ho.bts, hz, ho.cap, (fun h => by cases h), by omega⟩
/-- Get of one that stands at a place. -/
theorem get_back (a : Option Addr) (n cap : Nat) (ps : List Int) (q : Int) (l : LsaZ) (t : List Int) (S N : Int) (w : World) (hn : n = ps.length) (hE : Env w) (hS : Slice w a cap ps) (hr : rightLsaB l = true) (hf : fromZ ps q = layZ (withHead l (sealH l)) ++ t) (hs : (sealH l).sum = S) (hL : (sealH l).len = N) :
    Calls Tryd.prog 23 #[.slice a n cap, .int .i64 q] w fun e w' => ∃ s', e = .returned (.tuple #[.agg #[.int .i64 l.head.age, .int .i64 l.head.kind, .int .i64 l.head.id, .int .i64 l.head.adv, .int .i64 l.head.seq, .int .i64 S, .int .i64 N, .int .i64 l.flags, .slice s'.la l.links.length s'.lc, .int .i64 l.bits, .slice s'.ra l.routers.length s'.rc, .slice s'.va l.verts.length s'.vc], .int .i64 (q + N), .int .i64 0]) ∧ Held w' s' l ∧ Below w.heap.size w w' := by
  refine (get_any a n cap ps q w hn hE hS).mono ?_
  obtain ⟨g1, g2⟩ := got_back l hr t
  rintro e w' ⟨hb, h | h⟩
  · rw [hf, g2] at h
    obtain ⟨_, s', he, hh, hnl⟩ := h
    refine ⟨s', ?_, ⟨hh.hl, hh.hr, hh.hv⟩, hb⟩
    rw [he, ← hs, ← hL]
    have e1 := sealH_age l
    have e2 := sealH_kind l
    have e3 := sealH_id l
    have e4 := sealH_adv l
    have e5 := sealH_seq l
    rw [← e1, ← e2, ← e3, ← e4, ← e5]
    rfl
  · rw [hf] at h; exact absurd g1 h.1
theorem get_end (a : Option Addr) (n cap : Nat) (ps : List Int) (w : World) (hn : n = ps.length) (hE : Env w) (hS : Slice w a cap ps) :
    Calls Tryd.prog 23 #[.slice a n cap, .int .i64 n] w fun e w' => e = .returned (.tuple #[.agg #[.int .i64 0, .int .i64 0, .int .i64 0, .int .i64 0, .int .i64 0, .int .i64 0, .int .i64 0, .int .i64 0, .slice none 0 0, .int .i64 0, .slice none 0 0, .slice none 0 0], .int .i64 0, .int .i64 2]) ∧ Below w.heap.size w w' := by
  have hf : fromZ ps (n : Int) = [] := by
    subst hn; unfold fromZ; rw [if_neg (by omega)]; simp
  have hE2 : getE [] = 2 := rfl
  refine (get_any a n cap ps n w hn hE hS).mono ?_
  rw [hf]
  rintro e w' ⟨hb, h | h⟩
  · rw [hE2] at h; exact absurd h.1 (by decide)
  · rw [hE2] at h; exact ⟨h.2, hb⟩
end Go.Proofs.YtoanjhccbmifmaaDoor
