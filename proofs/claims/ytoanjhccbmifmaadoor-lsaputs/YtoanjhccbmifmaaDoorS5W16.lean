/- The bytes from a place on; GetHead. -/
import Derived.Test.YtoanjhccbmifmaaDoorS5W15
namespace Go.Proofs.YtoanjhccbmifmaaDoor
open Go.RowKit

def fromZ (zs : List Int) (p : Int) : List Int := if p < 0 ∨ (zs.length : Int) < p then [] else zs.drop p.toNat
theorem fromZ_bd {zs : List Int} (h : AreBytes zs) (p : Int) : AreBytes (fromZ zs p) := by
  unfold fromZ; split
  · intro z hz; cases hz
  · exact areBytes_drop h _
theorem fromZ_length (zs : List Int) (p : Int) : (fromZ zs p).length ≤ zs.length := by
  unfold fromZ; split <;> simp
/-- Bytes that came in, or a part of them. -/
structure Slice (w : World) (a : Option Addr) (cap : Nat) (zs : List Int) : Prop where
  bts : Bts w a zs
  bd : AreBytes zs
  room : zs.length ≤ cap
  nil : a = none → cap = 0
  len : zs.length ≤ 70368744177664
theorem Slice.below {w w' : World} {a : Option Addr} {cap : Nat} {zs : List Int} (h : Slice w a cap zs) (hb : Below w.heap.size w w') : Slice w' a cap zs := ⟨h.bts.below hb, h.bd, h.room, h.nil, h.len⟩
theorem slice_nil (w : World) : Slice w none 0 [] := ⟨.inl rfl, (fun z hz => by cases hz), by simp, (fun _ => rfl), by simp⟩
theorem ret_sl {a a' : Option Addr} {n n' c c' : Nat} (h : a = a') (hn : n = n') (hc : c = c') : Ending.returned (.slice a n c) = .returned (.slice a' n' c') := by rw [h, hn, hc]
set_option maxHeartbeats 800000 in
theorem from_any (a : Option Addr) (n cap : Nat) (zs : List Int) (p : Int) (w : World) (hn : n = zs.length) (hS : Slice w a cap zs) :
    Calls Tryd.prog 47 #[.slice a n cap, .int .i64 p] w fun e w' => (∃ a' c', e = .returned (.slice a' (fromZ zs p).length c') ∧ Slice w a' c' (fromZ zs p)) ∧ w' = w := by
  subst hn
  have hlen := hS.len
  by_cases h0 : p < 0
  · have HF : Hid (fromZ zs p = []) := by show _ = _; unfold fromZ; rw [if_pos (.inl h0)]
    go_enter Tryd.func47, Tryd.ntmps47
    go_wp2
    go_ret
    exact ⟨⟨none, 0, by rw [HF.out]; rfl, by rw [HF.out]; exact slice_nil _⟩, rfl⟩
  by_cases h1 : (zs.length : Int) < p
  · have HF : Hid (fromZ zs p = []) := by show _ = _; unfold fromZ; rw [if_pos (.inr h1)]
    go_enter Tryd.func47, Tryd.ntmps47
    go_wp2
    go_ret
    exact ⟨⟨none, 0, by rw [HF.out]; rfl, by rw [HF.out]; exact slice_nil _⟩, rfl⟩
  obtain ⟨k, rfl⟩ := Int.eq_ofNat_of_zero_le (show 0 ≤ p by omega)
  have hk : k ≤ zs.length := by omega
  have hF : fromZ zs (k : Int) = zs.drop k := by unfold fromZ; rw [if_neg (by omega)]; simp
  have hcap := hS.room
  rw [hF]
  have HL : Hid ((zs.drop k).length = zs.length - k) := by show _ = _; simp
  have HS : Hid (Slice w a cap zs) := hS
  cases a with
  | none =>
    have hc0 := hS.nil rfl
    have hz : zs = [] := List.eq_nil_of_length_eq_zero (by omega)
    subst hz hc0
    have hk0 : k = 0 := by simpa using hk
    subst hk0
    clear hS hF hlen
    go_enter Tryd.func47, Tryd.ntmps47
    go_wp2
    go_ret
    exact ⟨⟨none, 0, rfl, slice_nil w⟩, rfl⟩
  | some x =>
    have hend : ∀ a' : Option Addr, (a' = some (x.add k) ∨ cap = k ∧ a' = some x) → Slice w a' (cap - k) (zs.drop k) := by
      intro a' ha
      have hl : (zs.drop k).length ≤ cap - k := by simp; omega
      refine ⟨?_, areBytes_drop HS.out.bd k, hl, ?_, by have := HS.out.len; simp; omega⟩
      · rcases HS.out.bts with h | ⟨b, off, e, _⟩
        · exact .inl (by rw [h]; simp)
        · cases e
          rcases ha with rfl | ⟨h, rfl⟩
          · rw [addr_add]; exact bts_drop HS.out.bts
          · exact .inl (List.eq_nil_of_length_eq_zero (by simp; omega))
      · rintro rfl
        rcases ha with h | ⟨_, h⟩ <;> cases h
    have HEND : Hid (∀ a' : Option Addr, (a' = some (x.add k) ∨ cap = k ∧ a' = some x) → Slice w a' (cap - k) (zs.drop k)) := hend
    clear hend hS hF
    go_enter Tryd.func47, Tryd.ntmps47
    go_wp2
    · go_ret
      have h9 : cap = k := by omega
      exact ⟨⟨some x, 0, rfl, by have := HEND.out (some x) (.inr ⟨h9, rfl⟩); rwa [h9, Nat.sub_self] at this⟩, rfl⟩
    · go_ret
      exact ⟨⟨_, _, rfl, HEND.out _ (.inl rfl)⟩, rfl⟩
end Go.Proofs.YtoanjhccbmifmaaDoor
