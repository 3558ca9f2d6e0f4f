/- What is sealed; whether two have one body; the Key: in plain data, and the calls that ask little. -/
import Derived.Test.YtibbhfmpgpkdaaaS5W10
namespace Go.Proofs.Ytibbhfmpgpkdaaa
open Go.RowKit
def sealedB (l : LsaZ) : Bool := rightLsaB l && (((sealH l).sum == l.head.sum) && ((sealH l).len == l.head.len))
theorem sealH_age (l : LsaZ) : (sealH l).age = l.head.age := by unfold sealH; with_reducible rfl
theorem sealH_kind (l : LsaZ) : (sealH l).kind = l.head.kind := by unfold sealH; with_reducible rfl
theorem sealH_id (l : LsaZ) : (sealH l).id = l.head.id := by unfold sealH; with_reducible rfl
theorem sealH_adv (l : LsaZ) : (sealH l).adv = l.head.adv := by unfold sealH; with_reducible rfl
theorem sealH_seq (l : LsaZ) : (sealH l).seq = l.head.seq := by unfold sealH; with_reducible rfl
theorem seal_shape (l : LsaZ) : headA (sealH l) = #[.int .i64 l.head.age, .int .i64 l.head.kind, .int .i64 l.head.id, .int .i64 l.head.adv, .int .i64 l.head.seq, .int .i64 (sealH l).sum, .int .i64 (sealH l).len] := by
  simp only [headA, sealH_age, sealH_kind, sealH_id, sealH_adv, sealH_seq]
theorem take_eq_succ {α : Type} (a b : List α) (k : Nat) (ha : k < a.length) (hb : k < b.length) (h : a.take k = b.take k) (he : a[k] = b[k]) : a.take (k + 1) = b.take (k + 1) := by
  rw [← List.take_append_getElem ha, ← List.take_append_getElem hb, h, he]
theorem ne_at {α : Type} {a b : List α} {k : Nat} (ha : k < a.length) (hb : k < b.length) (h : a[k] ≠ b[k]) : a ≠ b := by
  rintro rfl; exact h rfl
theorem eq_end {α : Type} {a b : List α} {k : Nat} (hl : a.length = b.length) (hk : a.length ≤ k) (h : a.take k = b.take k) : a = b := by
  rwa [List.take_of_length_le hk, List.take_of_length_le (by omega)] at h
def bodyB (a b : LsaZ) : Bool := (a.head.kind == b.head.kind) && (a.flags == b.flags) && eqLinksB a.links b.links && (a.bits == b.bits) && decide (a.routers = b.routers) && eqVertsB a.verts b.verts
abbrev keyA (h : HeadZ) : Array Value := #[.int .i64 h.kind, .int .i64 h.id, .int .i64 h.adv]
set_option maxHeartbeats 800000 in
theorem keyOf_any (h : HeadZ) (w : World) :
    Calls Try.prog 36 #[.agg (headA h)] w fun e w' => e = .returned (.agg (keyA h)) ∧ Below w.heap.size w w' := by
  have HB : Hid (Below w.heap.size w ((w.alloc (.cells (headA h) 34)).alloc (.cells (keyA h) 41))) := (below_new' _ _).alloc (by simp) _
  go_enter Try.func36, Try.ntmps36
  go_wp2
  refine bodyPost_ret (by simp [results, Try.results36, go_sem]; try rfl) rfl ?_
  exact ⟨rfl, HB.out⟩
end Go.Proofs.Ytibbhfmpgpkdaaa
